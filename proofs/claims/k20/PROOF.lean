import PyProof.Rows.All
import Wide.All
import OpenK.AllK
import Wide.FinOn
import HandS.ForMost
import HandS.Zip
import HandS.IsInst
import HandS.TupAny
import HandS.SortRule
import HandS.Style
import HandS.Walk
import HandS.Evl
import HandS.Lambda
import KE.DataMinMax
import HandS.Wide
import HandS.DictTup
import HandS.Small
import KE.SortData
import HandS.TryOnly
import HandS.Conv
import HandS.SortInts
import KE.GoesEnum
import KE.GoesMore
import KE.DataCmp
import HandS.Dict
import HandS.Iter
import HandS.Deep
import PyProof.Rows.RuleB_pow
import HandS.TupMul
import HandS.SortKw
import KE.GoesEnumKw
import HandS.Star
import KE.KDictZip
import PyProof.MaxThree
import KE.SortKeyHeap
import HandS.Sort
import KE.KRevSl
import KE.KDictPairs
import HandS.SetFor
import HandS.Set
import PySem.Challenge.RW_fewcolours_k20_what_is_a_tree
set_option Elab.async false
set_option linter.all false
set_option maxRecDepth 100000
namespace Z
open PySem PySem.Spec PyProof.Rows L2
/-! ### heaps but for some addresses -/
def Dom (H H' : Hp) : Prop := ∀ a, H a ≠ none → H' a ≠ none
/-- the tables of code objects that a text fills (a lambda's): they may grow, all else about them stays -/
class TabCtx where
  T : List (Addr × Str)
def notTab : HO → Prop
  | .tbl _ => False
  | .ext _ => False
  | _ => True
theorem TabS.mutL {H : Hp} {P p : Addr} {q : Str} {o u : HO} (t : LamX.TabS H P q) (h : H p = some u) (n : notTab u) : LamX.TabS (upd H p o) P q := by
  obtain ⟨ps, h1, h2, h3⟩ := t
  refine ⟨ps, ?_, h2, fun pos cv hc => ?_⟩
  · rw [upd_ne (fun z => by rw [z, h] at h1; cases h1; exact n)]
    exact h1
  · obtain ⟨c, e1, e2⟩ := h3 pos cv hc
    refine ⟨c, e1, ?_⟩
    rw [upd_ne (fun z => by rw [z, h] at e2; unfold LamX.CodeO at e2; cases e2; exact n)]
    exact e2
theorem Tabs.mutL [TabCtx] {H : Hp} {p : Addr} {o u : HO} (t : LamX.Tabs TabCtx.T H) (h : H p = some u) (n : notTab u) : LamX.Tabs TabCtx.T (upd H p o) := fun z hz => TabS.mutL (t z hz) h n
variable [TabCtx]
structure Go (B : List Addr) (H H' : Hp) : Prop where
  k0 : ∀ a o, a ∉ B → (∀ ps, o ≠ .tbl ps) → H a = some o → H' a = some o
  d : Dom H H'
  t : LamX.Tabs TabCtx.T H → LamX.Tabs TabCtx.T H'
  u : ∀ a o vs, H a = some o → H' a = some (.tup vs) → o = .tup vs
theorem Go.k {B : List Addr} {H H' : Hp} (g : Go B H H') (a : Addr) (o : HO) (n : a ∉ B) (e : H a = some o) (nt : ∀ ps, o ≠ .tbl ps := by intro _ z; cases z) : H' a = some o := g.k0 a o n nt e
/-- what is kept clear of is there, and no tuple -/
def Bk (B : List Addr) (H : Hp) : Prop := ∀ a ∈ B, H a ≠ none ∧ ∀ vs, H a ≠ some (.tup vs)
abbrev NoTup (o : HO) : Prop := ∀ vs, o ≠ .tup vs
section
variable {B C : List Addr} {H H' H1 H2 : Hp} {p L : Addr} {o : HO}
theorem dom_new : Dom H (upd H p o) := fun a h => by
  by_cases e : a = p
  · subst e
    rw [upd_same]
    exact fun z => nomatch z
  · rw [upd_ne e]
    exact h
theorem dom_mut (d : Dom H H') : Dom H (upd H' p o) := fun a h => dom_new a (d a h)
theorem goU {H H1 H2 : Hp} (d : Dom H H1) (a : ∀ c o vs, H c = some o → H1 c = some (.tup vs) → o = .tup vs) (b : ∀ c o vs, H1 c = some o → H2 c = some (.tup vs) → o = .tup vs) : ∀ c o vs, H c = some o → H2 c = some (.tup vs) → o = .tup vs := fun c o vs e f => by
  cases q : H1 c with
  | none => exact absurd q (d c (by rw [e]; exact fun z => nomatch z))
  | some o1 =>
    have := b c o1 vs q f
    subst this
    exact a c o vs e q
theorem Go.refl : Go B H H := ⟨fun _ _ _ _ h => h, fun _ h => h, fun h => h, fun a o vs e f => by rw [e] at f; exact Option.some.inj f⟩
theorem Go.trans (a : Go B H H1) (b : Go B H1 H2) : Go B H H2 := ⟨fun c o n m h => b.k0 c o n m (a.k0 c o n m h), fun c h => b.d c (a.d c h), fun h => b.t (a.t h), fun c o vs e f => by
  cases q : H1 c with
  | none => exact absurd q (a.d c (by rw [e]; exact fun z => nomatch z))
  | some o1 =>
    have := b.u c o1 vs q f
    subst this
    exact a.u c o vs e q⟩
theorem same_dom (s : Same H H') : Dom H H' := fun a h => by
  cases q : H a with
  | none => exact absurd q h
  | some o => rw [s a o q]; exact fun z => nomatch z
theorem Go.of (s : Same H H') : Go B H H' := ⟨fun a o _ _ h => s a o h, same_dom s, fun h => h.ext s, fun a o vs e f => by rw [s a o e] at f; exact Option.some.inj f⟩
theorem Go.new (h : H p = none) : Go B H (upd H p o) := Go.of fun a u e => by
  rw [upd_ne (ne_of_none e h)]
  exact e
theorem Go.mut (g : Go B H H') (h : H p = none) (hl : ∃ u, H' p = some u ∧ notTab u := by exact ⟨_, ‹_›, by exact trivial⟩) : Go B H (upd H' p o) := ⟨fun a u n m e => by
  rw [upd_ne (ne_of_none e h)]
  exact g.k0 a u n m e, dom_mut g.d, fun h => by obtain ⟨u, e, n⟩ := hl; exact Tabs.mutL (g.t h) e n, fun a u vs e f => by
  rw [upd_ne (ne_of_none e h)] at f
  exact g.u a u vs e f⟩
/-- .. where it is laid for the first time -/
theorem Go.lay (g : Go B H H') (h : H' p = none) : Go B H (upd H' p o) := g.trans (Go.new h)
theorem Go.at (g : Go B H H') (h : p ∈ B) (hl : ∃ u, H' p = some u ∧ notTab u := by exact ⟨_, ‹_›, by exact trivial⟩) (ho : NoTup o := by intro _ z; cases z) : Go B H (upd H' p o) := ⟨fun a u n m e => by
  rw [upd_ne (show a ≠ p from fun z => n (by rw [z]; exact h))]
  exact g.k0 a u n m e, dom_mut g.d, fun h => by obtain ⟨u, e, n⟩ := hl; exact Tabs.mutL (g.t h) e n, fun a u vs e f => by
  by_cases q : a = p
  · rw [q, upd_same] at f
    exact absurd (Option.some.inj f) (ho vs)
  · rw [upd_ne q] at f
    exact g.u a u vs e f⟩
theorem Go.w (g : Go C H H') (s : ∀ a ∈ C, a ∈ B) : Go B H H' := ⟨fun a o n m h => g.k0 a o (fun q => n (s a q)) m h, g.d, g.t, g.u⟩
theorem Go.w1 (g : Go [L] H H') (s : L ∈ B) : Go B H H' := g.w fun a h => by rw [List.mem_singleton.mp h]; exact s
theorem Go.free (g : Go B H H') (h : H' p = none) : H p = none := by
  cases q : H p with
  | none => rfl
  | some o => exact absurd h (g.d p (by rw [q]; exact fun z => nomatch z))
theorem Bk.go (b : Bk B H) (g : Go C H H') : Bk B H' := fun a h => ⟨g.d a (b a h).1, fun vs f => by
  cases q : H a with
  | none => exact (b a h).1 q
  | some o =>
    have := g.u a o vs q f
    subst this
    exact (b a h).2 vs q⟩
theorem Bk.ne (b : Bk B H) (h : H p = none) : p ∉ B := fun q => (b p q).1 h
theorem Bk.cons (b : Bk B H) (h : H p = some o) (ho : NoTup o := by intro _ z; cases z) : Bk (p :: B) H := fun a q => by
  rcases List.mem_cons.mp q with e | e
  · subst e
    rw [h]
    exact ⟨(fun z => nomatch z), fun vs z => ho vs (Option.some.inj z)⟩
  · exact b a e
theorem Bk.up (b : Bk B H) (ho : NoTup o := by intro _ z; cases z) : Bk B (upd H p o) := fun a h => ⟨dom_new a (b a h).1, fun vs f => by
  by_cases q : a = p
  · rw [q, upd_same] at f
    exact ho vs (Option.some.inj f)
  · rw [upd_ne q] at f
    exact (b a h).2 vs f⟩
theorem sm_new (h : H p = none) : Same H (upd H p o) := fun b x e => by
  rw [upd_ne (ne_of_none e h)]
  exact e
theorem sm_mut (s : Same H H') (h : H p = none) : Same H (upd H' p o) := fun b x e => by
  rw [upd_ne (ne_of_none e h)]
  exact s b x e
/-- what was new behind H, and is in B, may change -/
theorem Go.sm (g : Go B H1 H2) (s : Go [] H H1) (n : ∀ a ∈ B, H a = none) : Go [] H H2 := ⟨fun a o _ m h => g.k0 a o (fun q => by rw [n a q] at h; cases h) m (s.k0 a o (fun z => nomatch z) m h), fun a h => g.d a (s.d a h), fun h => g.t (s.t h), goU s.d s.u g.u⟩
theorem Go.cons (g : Go (p :: B) H1 H2) (s : Go B H H1) (h : H p = none) : Go B H H2 := ⟨fun a o n m e => g.k0 a o (fun q => by
  rcases List.mem_cons.mp q with z | z
  · rw [z, h] at e
    cases e
  · exact n z) m (s.k0 a o n m e), fun a e => g.d a (s.d a e), fun h => g.t (s.t h), goU s.d s.u g.u⟩
end
/-! ### the list that is drawn from -/
def Lf (L : Addr) (H : Hp) (n : Nat) : Prop := ∃ a b c : Int, H L = some (.lst [.int a, .int b, .int c]) ∧ 0 ≤ a ∧ 0 ≤ c ∧ c ≤ (n : Int)
section
variable {L p : Addr} {H H' : Hp} {n m : Nat} {o : HO} {B : List Addr}
theorem Lf.mono (h : Lf L H n) (l : n ≤ m) : Lf L H m := by
  obtain ⟨a, b, c, e, h1, h2, h3⟩ := h
  exact ⟨a, b, c, e, h1, h2, by omega⟩
theorem Lf.same (h : Lf L H n) (s : Same H H') : Lf L H' n := by
  obtain ⟨a, b, c, e, h1, h2, h3⟩ := h
  exact ⟨a, b, c, s _ _ e, h1, h2, h3⟩
theorem Lf.go (h : Lf L H n) (g : Go B H H') (i : L ∉ B) : Lf L H' n := by
  obtain ⟨a, b, c, e, h1, h2, h3⟩ := h
  exact ⟨a, b, c, g.k _ _ i e, h1, h2, h3⟩
theorem Lf.ne (h : Lf L H n) (e : H p = none) : p ≠ L := fun q => by
  obtain ⟨a, b, c, e', _⟩ := h
  rw [q, e'] at e
  cases e
theorem Lf.up (h : Lf L H n) (e : p ≠ L) : Lf L (upd H p o) n := by
  obtain ⟨a, b, c, e', h1, h2, h3⟩ := h
  refine ⟨a, b, c, ?_, h1, h2, h3⟩
  rw [upd_ne (Ne.symm e)]
  exact e'
theorem Lf.new (h : Lf L H n) (e : H p = none) : Lf L (upd H p o) n := h.up (h.ne e)
theorem Lf.bk (h : Lf L H n) : Bk [L] H := fun a q => by
  obtain ⟨_, _, _, e, _⟩ := h
  rw [List.mem_singleton.mp q, e]
  exact ⟨(fun z => nomatch z), fun vs z => nomatch z⟩
end
/-! ### data apart from some addresses -/
mutual
inductive Dt (B : List Addr) (H : Hp) : V → PyData → Prop
  | non : Dt B H .non .none
  | bl (b : Bool) : Dt B H (.bl b) (.bool b)
  | int (i : Int) : Dt B H (.int i) (.int i)
  | str (x : Str) : Dt B H (.str x) (.str x)
  | lst {a : Addr} {xs : List V} {ds : List PyData} : a ∉ B → H a = some (.lst xs) → DtA B H xs ds → Dt B H (.ref a) (.list ds)
  | tup {a : Addr} {xs : List V} {ds : List PyData} : a ∉ B → H a = some (.tup xs) → DtA B H xs ds → Dt B H (.ref a) (.tuple ds)
inductive DtA (B : List Addr) (H : Hp) : List V → List PyData → Prop
  | nil : DtA B H [] []
  | cons {v : V} {vs : List V} {d : PyData} {ds : List PyData} : Dt B H v d → DtA B H vs ds → DtA B H (v :: vs) (d :: ds)
end
section
variable {B C : List Addr} {H H' : Hp} {p L : Addr}
mutual
/-- the general way from one to another -/
theorem Dt.to (f : ∀ a o, a ∉ B → (∀ ps, o ≠ .tbl ps) → H a = some o → a ∉ C ∧ H' a = some o) : ∀ (d : PyData) (v : V), Dt B H v d → Dt C H' v d
  | .none, _, h => by cases h; exact .non
  | .bool b, _, h => by cases h; exact .bl b
  | .int i, _, h => by cases h; exact .int i
  | .str x, _, h => by cases h; exact .str x
  | .list ds, _, h => by
    cases h with
    | lst n hs ha => exact .lst (f _ _ n (fun _ z => by cases z) hs).1 (f _ _ n (fun _ z => by cases z) hs).2 (DtA.to f ds _ ha)
  | .tuple ds, _, h => by
    cases h with
    | tup n hs ha => exact .tup (f _ _ n (fun _ z => by cases z) hs).1 (f _ _ n (fun _ z => by cases z) hs).2 (DtA.to f ds _ ha)
  | .dict _, _, h => by cases h
theorem DtA.to (f : ∀ a o, a ∉ B → (∀ ps, o ≠ .tbl ps) → H a = some o → a ∉ C ∧ H' a = some o) : ∀ (ds : List PyData) (vs : List V), DtA B H vs ds → DtA C H' vs ds
  | [], _, h => by cases h; exact .nil
  | d :: ds, _, h => by
    cases h with
    | cons h1 h2 => exact .cons (Dt.to f d _ h1) (DtA.to f ds _ h2)
end
mutual
theorem Dt.dp {K : PySem.W.Frag} : ∀ (d : PyData) (v : V), Dt B H v d → Dp K H v d
  | .none, _, h => by cases h; exact .non
  | .bool b, _, h => by cases h; exact .bl b
  | .int i, _, h => by cases h; exact .int i
  | .str x, _, h => by cases h; exact .str x
  | .list ds, _, h => by
    cases h with
    | lst n hs ha => exact .lst (SqL.of hs) (DtA.dp ds _ ha)
  | .tuple ds, _, h => by
    cases h with
    | tup n hs ha => exact .tup (SqT.of hs) (DtA.dp ds _ ha)
  | .dict _, _, h => by cases h
theorem DtA.dp {K : PySem.W.Frag} : ∀ (ds : List PyData) (vs : List V), DtA B H vs ds → DpAll K H vs ds
  | [], _, h => by cases h; exact .nil
  | d :: ds, _, h => by
    cases h with
    | cons h1 h2 => exact .cons (Dt.dp d _ h1) (DtA.dp ds _ h2)
end
variable {d : PyData} {v : V} {ds : List PyData} {vs ws : List V}
theorem Dt.g (h : Dt B H v d) (g : Go B H H') : Dt B H' v d := Dt.to (fun a o n m e => ⟨n, g.k0 a o n m e⟩) d v h
theorem DtA.g (h : DtA B H vs ds) (g : Go B H H') : DtA B H' vs ds := DtA.to (fun a o n m e => ⟨n, g.k0 a o n m e⟩) ds vs h
theorem Dt.s (h : Dt B H v d) (s : Same H H') : Dt B H' v d := h.g (Go.of s)
theorem DtA.s (h : DtA B H vs ds) (s : Same H H') : DtA B H' vs ds := h.g (Go.of s)
/-- a new address may change, too -/
theorem Dt.fr (h : Dt B H v d) (e : H p = none) : Dt (p :: B) H v d := Dt.to (fun a o n _ q => ⟨fun z => by
  rcases List.mem_cons.mp z with y | y
  · rw [y, e] at q
    cases q
  · exact n y, q⟩) d v h
theorem DtA.fr (h : DtA B H vs ds) (e : H p = none) : DtA (p :: B) H vs ds := DtA.to (fun a o n _ q => ⟨fun z => by
  rcases List.mem_cons.mp z with y | y
  · rw [y, e] at q
    cases q
  · exact n y, q⟩) ds vs h
theorem Dt.un (h : Dt (p :: B) H v d) : Dt B H v d := Dt.to (fun a o n _ q => ⟨fun z => n (List.mem_cons_of_mem _ z), q⟩) d v h
theorem DtA.un (h : DtA (p :: B) H vs ds) : DtA B H vs ds := DtA.to (fun a o n _ q => ⟨fun z => n (List.mem_cons_of_mem _ z), q⟩) ds vs h
theorem Dt.sub (h : Dt B H v d) (s : ∀ a ∈ C, a ∈ B) : Dt C H v d := Dt.to (fun a o n _ q => ⟨fun z => n (s a z), q⟩) d v h
theorem DtA.sub (h : DtA B H vs ds) (s : ∀ a ∈ C, a ∈ B) : DtA C H vs ds := DtA.to (fun a o n _ q => ⟨fun z => n (s a z), q⟩) ds vs h
theorem Dt.dP {K : PySem.W.Frag} (h : Dt B H v d) : Dp K H v d := Dt.dp d v h
theorem DtA.len {vs : List V} : ∀ {ds : List PyData}, DtA B H vs ds → vs.length = ds.length := by
  induction vs with
  | nil => intro ds h; cases h; rfl
  | cons v vs ih => intro ds h; cases h with | cons h1 h2 => rw [List.length_cons, List.length_cons, ih h2]
theorem DtA.get {vs : List V} : ∀ {ds : List PyData} {i : Nat} {d : PyData}, DtA B H vs ds → ds[i]? = some d → ∃ v, vs[i]? = some v ∧ Dt B H v d := by
  induction vs with
  | nil => intro ds i d h e; cases h; simp at e
  | cons v vs ih =>
    intro ds i d h e
    cases h with
    | cons h1 h2 =>
      cases i with
      | zero => cases e; exact ⟨v, rfl, h1⟩
      | succ i => exact ih (i := i) h2 (by simpa using e)
theorem DtA.getV {vs : List V} : ∀ {ds : List PyData} {i : Nat} {v : V}, DtA B H vs ds → vs[i]? = some v → ∃ d, ds[i]? = some d ∧ Dt B H v d := by
  induction vs with
  | nil => intro ds i d h e; simp at e
  | cons v vs ih =>
    intro ds i d h e
    cases h with
    | cons h1 h2 =>
      cases i with
      | zero => cases e; exact ⟨_, rfl, h1⟩
      | succ i => exact ih (i := i) h2 (by simpa using e)
theorem DtA.app {vs ws : List V} : ∀ {ds es : List PyData}, DtA B H vs ds → DtA B H ws es → DtA B H (vs ++ ws) (ds ++ es) := by
  induction vs with
  | nil => intro ds es h h2; cases h; exact h2
  | cons v vs ih =>
    intro ds es h h2
    cases h with
    | cons h1 h3 => exact .cons h1 (ih h3 h2)
theorem DtA.one (h : Dt B H v d) : DtA B H [v] [d] := .cons h .nil
theorem DtA.ints : ∀ ns : List Int, DtA B H (ns.map V.int) (ns.map PyData.int)
  | [] => .nil
  | n :: ns => .cons (.int n) (DtA.ints ns)
theorem DtA.intsV : ∀ {ns : List Int} {vs : List V}, DtA B H vs (ns.map PyData.int) → vs = ns.map V.int
  | [], _, h => by cases h; rfl
  | n :: ns, _, h => by
    cases h with
    | cons h1 h2 =>
      cases h1
      rw [DtA.intsV h2]
      rfl
theorem DtA.blsV : ∀ {ns : List Bool} {vs : List V}, DtA B H vs (ns.map PyData.bool) → vs = ns.map V.bl
  | [], _, h => by cases h; rfl
  | n :: ns, _, h => by
    cases h with
    | cons h1 h2 =>
      cases h1
      rw [DtA.blsV h2]
      rfl
/-- a colour; a list of ints; a palette -/
def eC (ns : List Int) : PyData := .tuple (ns.map .int)
def eI (ns : List Int) : PyData := .list (ns.map .int)
def eP (cs : List (List Int)) : PyData := .list (cs.map eC)
theorem Dt.col {v : V} {ns : List Int} (h : Dt B H v (eC ns)) : ∃ a, v = .ref a ∧ a ∉ B ∧ H a = some (.tup (ns.map V.int)) := by
  cases h with
  | tup n hs ha =>
    have e := DtA.intsV ha
    subst e
    exact ⟨_, rfl, n, hs⟩
theorem Dt.ofCol {a : Addr} {ns : List Int} (n : a ∉ B) (h : H a = some (.tup (ns.map V.int))) : Dt B H (.ref a) (eC ns) := .tup n h (DtA.ints ns)
theorem Dt.ofInts {a : Addr} {ns : List Int} (n : a ∉ B) (h : H a = some (.lst (ns.map V.int))) : Dt B H (.ref a) (eI ns) := .lst n h (DtA.ints ns)
theorem Dt.ints {v : V} {ns : List Int} (h : Dt B H v (eI ns)) : ∃ a, v = .ref a ∧ a ∉ B ∧ H a = some (.lst (ns.map V.int)) := by
  cases h with
  | lst n hs ha =>
    have e := DtA.intsV ha
    subst e
    exact ⟨_, rfl, n, hs⟩
theorem Dt.tupI {v : V} {ds : List PyData} (h : Dt B H v (.tuple ds)) : ∃ a vs, v = .ref a ∧ a ∉ B ∧ H a = some (.tup vs) ∧ DtA B H vs ds := by
  cases h with
  | tup n hs ha => exact ⟨_, _, rfl, n, hs, ha⟩
theorem Dt.lstI {v : V} {ds : List PyData} (h : Dt B H v (.list ds)) : ∃ a vs, v = .ref a ∧ a ∉ B ∧ H a = some (.lst vs) ∧ DtA B H vs ds := by
  cases h with
  | lst n hs ha => exact ⟨_, _, rfl, n, hs, ha⟩
theorem Dt.pal {v : V} {cs : List (List Int)} (h : Dt B H v (eP cs)) : ∃ a vs, v = .ref a ∧ a ∉ B ∧ H a = some (.lst vs) ∧ DtA B H vs (cs.map eC) := Dt.lstI h
theorem Dt.intI {v : V} {i : Int} (h : Dt B H v (.int i)) : v = .int i := by
  cases h
  rfl
end
/-! ### the rules that speak of the written part, with it named -/
def rLenS (K : PySem.W.Frag) : List V → Hp → VK → Prop := fun xs H Q => ∃ p ys, xs = [.ref p] ∧ (SqL K H p ys ∨ SqT K H p ys) ∧ Q (.int ys.length) H
def rListOf (K : PySem.W.Frag) : List V → Hp → VK → Prop := fun xs H Q => ∃ p ys, xs = [.ref p] ∧ (SqL K H p ys ∨ SqT K H p ys) ∧ ∀ l, H l = none → Q (.ref l) (upd H l (.lst ys))
def rTupOf (K : PySem.W.Frag) : List V → Hp → VK → Prop := fun xs H Q => ∃ p ys, xs = [.ref p] ∧ ((SqL K H p ys ∧ ∀ l, H l = none → Q (.ref l) (upd H l (.tup ys))) ∨ (SqT K H p ys ∧ Q (.ref p) H))
section
variable (K : PySem.W.Frag) {X : Cx}
theorem ix_listK (h : X.K = K := by rfl) : IxR X (rIxL K) := h ▸ ix_list
theorem ix_tupK (h : X.K = K := by rfl) : IxR X (rIxT K) := h ▸ ix_tup
theorem sl_listK (h : X.K = K := by rfl) : SlR X (rSlL K) := h ▸ sl_list
theorem sl_tupAK (h : X.K = K := by rfl) : SlR X (rSlA K) := h ▸ sl_tupA
theorem op_catAK (h : X.K = K := by rfl) : OpR X (binaryOp .Add) (rCatA K) := h ▸ op_catA
theorem op_eqDK (hu : X.A.units + 64 < cLine) (h : X.K = K := by rfl) : OpR X (compareOp .Eq) (rEqD K) := h ▸ op_eqD hu
theorem op_neDK (hu : X.A.units + 64 < cLine) (h : X.K = K := by rfl) : OpR X (compareOp .NotEq) (rNeD K) := h ▸ op_neD hu
theorem len_K (h : X.K = K := by rfl) : CallR X (.builtin "len") (rLenS K) := h ▸ call_len_seq
theorem list_K (h : X.K = K := by rfl) : CallR X (.type "list") (rListOf K) := h ▸ call_list_of
theorem tuple_K (h : X.K = K := by rfl) : CallR X (.type "tuple") (rTupOf K) := h ▸ call_tuple_of
theorem cr_sumK (hc : X.calm = true) (h : X.K = K := by rfl) : CallR X (.builtin "sum") (rSum K) := h ▸ cr_sum hc
theorem cr_maxK (hc : X.calm = true) (h : X.K = K := by rfl) : CallR X (.builtin "max") (rMax K) := h ▸ cr_max hc
theorem cr_minK (hc : X.calm = true) (h : X.K = K := by rfl) : CallR X (.builtin "min") (rMin K) := h ▸ cr_min hc
theorem cr_anyK (hc : X.calm = true) (h : X.K = K := by rfl) : CallR X (.builtin "any") (rAny K) := h ▸ cr_any hc
theorem cr_allK (hc : X.calm = true) (h : X.K = K := by rfl) : CallR X (.builtin "all") (rAll K) := h ▸ cr_all hc
theorem call_isiK1 (h : X.K = K := by rfl) : CallR X (.builtin "isinstance") (rIsi K) := h ▸ call_isi
theorem call_isiTK (h : X.K = K := by rfl) : CallR X (.builtin "isinstance") (rIsiT K) := h ▸ call_isiT
theorem cr_sortedK (h : X.K = K := by rfl) : CallR X (.builtin "sorted") (rSortedPO K) := h ▸ cr_sortedPO
theorem mt_indexK (h : X.K = K := by rfl) : MtR X "list.index" (rIndex K) := h ▸ mt_index
theorem pi_listK {tg l : Expr} {tl : TE} (hl : PE X l tl) (h : X.K = K := by rfl) : PI X tg l (iList K tl) := h ▸ pi_list hl
theorem pg_tupK {pos : Pos} {es : List Expr} {kk : Nat} {t : TGs} {n : Nat} (hc : X.calm = true) (h : PGs X es t) (hn : (assignEach es X.env).length = n := by rfl) (hst : (assignEach es X.env).findIdx? (·.1) = none := by rfl) (h2 : X.K = K := by rfl) : PG X (.Tuple es kk pos) (gTup K n t) :=
  h2 ▸ pg_tup hc h hn hst
theorem pi_tupK {tg l : Expr} {tl : TE} (hl : PE X l tl) (h : X.K = K := by rfl) : PI X tg l (iTup K tl) := h ▸ pi_tup hl
end
/-! ### shapes -/
mutual
def wide : PyData → Bool
  | .none | .bool _ | .int _ | .str _ => true
  | .list xs | .tuple xs => decide (xs.length ≤ 100000) && wideAll xs
  | .dict _ => false
def wideAll : List PyData → Bool
  | [] => true
  | x :: xs => wide x && wideAll xs
end
def Sh (d : PyData) (k : Nat) : Prop := d.canLay0 = true ∧ d.depth ≤ k ∧ wide d = true
theorem sh_all : ∀ {ds : List PyData} {k : Nat}, (∀ d ∈ ds, Sh d k) → PyData.canLayAll0 ds = true ∧ PyData.depthAll ds ≤ k ∧ wideAll ds = true
  | [], _, _ => ⟨rfl, Nat.zero_le _, by rw [wideAll]⟩
  | d :: ds, k, h => by
    obtain ⟨h1, h2, h4⟩ := sh_all (ds := ds) (k := k) fun x hx => h x (List.mem_cons_of_mem _ hx)
    have h3 := h d (List.mem_cons_self ..)
    refine ⟨?_, ?_, ?_⟩
    · rw [PyData.canLayAll0, h1, h3.1]; rfl
    · rw [PyData.depthAll]
      exact Nat.max_le.mpr ⟨h3.2.1, h2⟩
    · rw [wideAll, h4, h3.2.2]; rfl
theorem sh_mem : ∀ {ds : List PyData} {k : Nat}, PyData.canLayAll0 ds = true → PyData.depthAll ds ≤ k → wideAll ds = true → ∀ d ∈ ds, Sh d k
  | [], _, _, _, _, _, h => nomatch h
  | d :: ds, k, h1, h2, h3, x, hx => by
    rw [PyData.canLayAll0] at h1
    rw [PyData.depthAll] at h2
    rw [wideAll] at h3
    have a := Bool.and_eq_true_iff.mp h1
    have b := Nat.max_le.mp h2
    have c := Bool.and_eq_true_iff.mp h3
    rcases List.mem_cons.mp hx with e | e
    · rw [e]; exact ⟨a.1, b.1, c.1⟩
    · exact sh_mem a.2 b.2 c.2 x e
theorem sh_tup {ds : List PyData} {k : Nat} (l : ds.length ≤ 100000) (h : ∀ d ∈ ds, Sh d k) : Sh (.tuple ds) (k + 1) := by
  obtain ⟨h1, h2, h3⟩ := sh_all h
  exact ⟨by rw [PyData.canLay0]; exact h1, by rw [PyData.depth]; omega, by rw [wide, h3, decide_eq_true l]; rfl⟩
theorem sh_lst {ds : List PyData} {k : Nat} (l : ds.length ≤ 100000) (h : ∀ d ∈ ds, Sh d k) : Sh (.list ds) (k + 1) := by
  obtain ⟨h1, h2, h3⟩ := sh_all h
  exact ⟨by rw [PyData.canLay0]; exact h1, by rw [PyData.depth]; omega, by rw [wide, h3, decide_eq_true l]; rfl⟩
theorem sh_int (i : Int) (k : Nat) : Sh (.int i) k := ⟨rfl, by rw [PyData.depth]; omega, by rw [wide]⟩
theorem sh_bool (i : Bool) (k : Nat) : Sh (.bool i) k := ⟨rfl, by rw [PyData.depth]; omega, by rw [wide]⟩
theorem sh_none (k : Nat) : Sh .none k := ⟨rfl, by rw [PyData.depth]; omega, by rw [wide]⟩
theorem sh_eC {ns : List Int} (l : ns.length ≤ 100000) : Sh (eC ns) 1 := sh_tup (by simpa using l) fun d hd => by
  obtain ⟨n, _, rfl⟩ := List.mem_map.mp hd
  exact sh_int n 0
theorem sh_eI {ns : List Int} (l : ns.length ≤ 100000) : Sh (eI ns) 1 := sh_lst (by simpa using l) fun d hd => by
  obtain ⟨n, _, rfl⟩ := List.mem_map.mp hd
  exact sh_int n 0
theorem sh_eP {cs : List (List Int)} (l : cs.length ≤ 100000) (h : ∀ c ∈ cs, c.length ≤ 100000) : Sh (eP cs) 2 := sh_lst (by simpa using l) fun d hd => by
  obtain ⟨n, m, rfl⟩ := List.mem_map.mp hd
  exact sh_eC (h n m)
theorem Sh.mono {d : PyData} {j k : Nat} (h : Sh d j) (l : j ≤ k) : Sh d k := ⟨h.1, Nat.le_trans h.2.1 l, h.2.2⟩
theorem Sh.sh {d : PyData} {k : Nat} (h : Sh d k) (l : k ≤ 64) : SeqAt.shaped d = true := by
  unfold SeqAt.shaped
  rw [h.1, decide_eq_true (Nat.le_trans h.2.1 l)]
  rfl
theorem Sh.tupI {ds : List PyData} {k : Nat} (h : Sh (.tuple ds) k) : ∃ j, k = j + 1 ∧ (∀ d ∈ ds, Sh d j) ∧ ds.length ≤ 100000 := by
  obtain ⟨h1, h2, h3⟩ := h
  rw [PyData.canLay0] at h1
  rw [PyData.depth] at h2
  rw [wide] at h3
  have c := Bool.and_eq_true_iff.mp h3
  exact ⟨k - 1, by omega, sh_mem h1 (by omega) c.2, of_decide_eq_true c.1⟩
theorem Sh.lstI {ds : List PyData} {k : Nat} (h : Sh (.list ds) k) : ∃ j, k = j + 1 ∧ (∀ d ∈ ds, Sh d j) ∧ ds.length ≤ 100000 := by
  obtain ⟨h1, h2, h3⟩ := h
  rw [PyData.canLay0] at h1
  rw [PyData.depth] at h2
  rw [wide] at h3
  have c := Bool.and_eq_true_iff.mp h3
  exact ⟨k - 1, by omega, sh_mem h1 (by omega) c.2, of_decide_eq_true c.1⟩
/-! ### isinstance -/
def tyn : PyData → String
  | .none => "NoneType" | .bool _ => "bool" | .int _ => "int" | .str _ => "str" | .list _ => "list" | .tuple _ => "tuple" | .dict _ => "dict"
theorem Dt.ty {K : PySem.W.Frag} {B : List Addr} {H : Hp} {v : V} {d : PyData} (h : Dt B H v d) : TyX K H v (.type (tyn d)) := by
  cases h with
  | non => exact .base .non
  | bl b => exact .base (.bl b)
  | int i => exact .base (.int i)
  | str x => exact .base (.str x)
  | lst n hs ha => exact .base (.lst hs)
  | tup n hs ha => exact .base (.tup hs)
theorem r_isi {K : PySem.W.Frag} {H : Hp} {Q : VK} {x : V} {t n : String} {b : Bool} (h : TyX K H x (.type t)) (e : kitB t n = some b) (q : Q (.bl b) H) : rIsi K [x, .ty n] H Q := ⟨x, .ty n, _, _, b, rfl, .ty n, h, kit_ty e, q⟩
theorem iteD {c A B : Prop} [Decidable c] (hc : c) (h : A) : if decide c = true then A else B := by
  rw [if_pos (decide_eq_true hc)]
  exact h
theorem iteE {A B : Prop} {c : Bool} (hc : c = true) (h : A) : if c = true then A else B := by
  rw [if_pos hc]
  exact h
theorem iteN {A B : Prop} {c : Bool} (hc : c = false) (h : B) : if c = true then A else B := by
  rw [hc, if_neg Bool.false_ne_true]
  exact h
/-! ### comprehensions -/
theorem lc_yes {te : TE} {σ : L2.St} {H : Hp} {Qy : VK} {N : Hp → Prop} (h : te σ H Qy) : tYes σ H (fun b H3 => if b = true then te σ H3 Qy else N H3) := by
  show if true = true then te σ H Qy else N H
  rw [if_pos rfl]
  exact h
theorem walk_zipT {K : PySem.W.Frag} {a b : Addr} {xs ys : List V} {n : Nat} (hn : n = min xs.length ys.length) : Walk (RZ.ItzT K a b) n (fun H => SqT K H a xs ∧ SqT K H b ys) (YPair (fun i => xs[i]?) (fun i => ys[i]?)) := by
  subst hn
  refine ⟨fun i _ hi q => ?_, fun _ q => ⟨xs, ys, q.1, q.2, by omega⟩, fun i H v H' _ q y => ?_⟩
  · have h1 : i < xs.length := by omega
    have h2 : i < ys.length := by omega
    exact ⟨xs, ys, xs[i], ys[i], q.1, q.2, by simp [h1], by simp [h2]⟩
  · obtain ⟨T, x, z, h1, h2, h3, h4, h5⟩ := y
    exact ⟨T, x, z, h1, h2, h3, h4 xs q.1, h5 ys q.2⟩
theorem sz {n : Nat} (h : n ≤ 100000) : n < sizeLine := Nat.lt_of_le_of_lt h (by decide)
/-- a comprehension that leaves all as it was: what it makes, item by item -/
theorem lc_pure {J : It} {n : Nat} {G : Hp → Prop} {Y : Nat → Hp → V → Hp → Prop} (w : Walk J n G Y) {g : TG} {tt : TT} {te : TE} {vs : List Nat} {σ : L2.St} {H1 : Hp} {D : Addr} {Qd : Hp → Prop} {B : List Addr}
    (hD : H1 D = none) (hB : Bk B H1) (hG : ∀ H', Same H1 H' → G H') (hn : n ≤ 100000) (e : Nat → Option PyData)
    (hs : ∀ (i : Nat) (x : V) (H' H'' : Hp) (Ny : V → Hp → Prop) (Nn : Hp → Prop), i < n → Same H1 H' → Bk (D :: B) H' → Y i H' x H'' → (∀ y H4 d, e i = some d → Same H' H4 → Dt (D :: B) H4 y d → Ny y H4) → (∀ H3, e i = none → Same H' H3 → Nn H3) →
      g x (wipe σ vs) H'' fun σ2 H2 => wipe σ2 vs = wipe σ vs ∧ tt σ2 H2 fun b H3 => if b = true then te σ2 H3 Ny else Nn H3)
    (hd : ∀ (H' : Hp) (ws : List V), Same H1 H' → H' D = some (.lst ws) → DtA (D :: B) H' ws ((List.range n).filterMap e) → Qd H') :
    ∃ W : Nat → Nat → Hp → Prop, (∃ m, W 0 m (upd H1 D (.lst []))) ∧ ∀ i m H, W i m H →
      (J.stop i H ∧ Qd H) ∨ (J.go i H ∧ ∃ Nx : Hp → Prop, (∀ H', Nx H' → ∃ m', m' < m ∧ W (i + 1) m' H') ∧ ∀ x H', J.yld i H x H' → g x (wipe σ vs) H' fun σ2 H2 => wipe σ2 vs = wipe σ vs ∧ tt σ2 H2 fun b H3 =>
        if b = true then te σ2 H3 fun y H4 => ∃ acc, H4 D = some (.lst acc) ∧ acc.length < sizeLine ∧ Nx (upd H4 D (.lst (acc ++ [y]))) else Nx H3) := by
  refine lc_it w (fun i H' => Same H1 H' ∧ ∃ ws, H' D = some (.lst ws) ∧ DtA (D :: B) H' ws ((List.range i).filterMap e) ∧ ws.length ≤ i) ⟨sm_new hD, [], upd_same, .nil, Nat.le_refl _⟩ (fun i H' _ h => hG H' h.1) (fun i x H' H'' hi h y => ?_) (fun H' h => ?_)
  · obtain ⟨s1, ws, eD, hA, hl⟩ := h
    have hb : Bk (D :: B) H' := (hB.go (Go.of (B := B) s1)).cons eD
    refine hs i x H' H'' _ _ hi s1 hb y (fun y H4 d ed s4 hy => ?_) (fun H3 ed s3 => ?_)
    · refine ⟨ws, s4 _ _ eD, sz (by omega), sm_mut (s1.trans s4) hD, ws ++ [y], upd_same, ?_, by simp; omega⟩
      rw [List.range_succ, List.filterMap_append]
      have eD4 := s4 _ _ eD
      have g4 : Go (D :: B) H4 (upd H4 D (.lst (ws ++ [y]))) := Go.refl.at (List.mem_cons_self ..)
      refine DtA.app ((hA.s s4).g g4) ?_
      simp only [List.filterMap_cons, List.filterMap_nil, ed]
      exact .one (hy.g g4)
    · refine ⟨s1.trans s3, ws, s3 _ _ eD, ?_, by omega⟩
      rw [List.range_succ, List.filterMap_append]
      simp only [List.filterMap_cons, List.filterMap_nil, ed, List.append_nil]
      exact hA.s s3
  · obtain ⟨s1, ws, eD, hA, hl⟩ := h
    exact hd H' ws s1 eD hA
theorem fm_take {α : Type} (ys : List α) : ∀ n, (List.range n).filterMap (fun i => ys[i]?) = ys.take n
  | 0 => by simp
  | n + 1 => by
    rw [List.range_succ, List.filterMap_append, fm_take ys n, List.take_add_one]
    cases h : ys[n]? <;> simp [h]
theorem fm_all {α : Type} {ys : List α} {n : Nat} (h : ys.length = n) : (List.range n).filterMap (fun i => ys[i]?) = ys := by
  rw [fm_take, ← h, List.take_length]
theorem at0 {α : Type} {xs : List α} {i : Int} {v : α} (h : 0 ≤ i) (e : xs[i.toNat]? = some v) : atI xs i = some v := by
  have := atI_nat e
  rw [Int.toNat_of_nonneg h] at this
  exact this
theorem bit_ok (b : Bool) : (-(2 ^ 64) : Int) < (if b = true then 1 else 0) ∧ (if b = true then 1 else 0 : Int) < 2 ^ 64 := by cases b <;> decide
theorem md {j : Int} (h : 0 < j) : 0 < j := h
theorem at_in {xs : List V} {r : Int} (h0 : 0 ≤ r) (h1 : r < xs.length) : ∃ v, v ∈ xs ∧ atI xs r = some v := by
  have h : r.toNat < xs.length := by omega
  exact ⟨xs[r.toNat], List.getElem_mem h, at0 h0 (List.getElem?_eq_getElem h)⟩
theorem at_int {ns : List Int} {r : Int} (h0 : 0 ≤ r) (h1 : r < ns.length) : ∃ z, z ∈ ns ∧ atI (ns.map V.int) r = some (.int z) := by
  have h : r.toNat < ns.length := by omega
  exact ⟨ns[r.toNat], List.getElem_mem h, at0 h0 (by rw [List.getElem?_map, List.getElem?_eq_getElem h]; rfl)⟩
theorem at2 (x y : V) (b : Bool) : atI [x, y] (if b = true then 1 else 0) = some (if b = true then y else x) := by cases b <;> rfl
/-- numbers within bounds -/
def cIn (lo hi : Int) (ns : List Int) : Prop := ∀ x ∈ ns, lo ≤ x ∧ x ≤ hi
theorem cIn.app {lo hi x : Int} {ns : List Int} (h : cIn lo hi ns) (h1 : lo ≤ x) (h2 : x ≤ hi) : cIn lo hi (ns ++ [x]) := fun y hy => by
  rcases List.mem_append.mp hy with q | q
  · exact h y q
  · rw [List.mem_singleton.mp q]
    exact ⟨h1, h2⟩
theorem cIn.nil {lo hi : Int} : cIn lo hi [] := fun _ h => nomatch h
theorem cIn.mono {lo hi lo' hi' : Int} {ns : List Int} (h : cIn lo hi ns) (h1 : lo' ≤ lo) (h2 : hi ≤ hi') : cIn lo' hi' ns := fun x hx => by
  have := h x hx
  omega
/-- a comprehension of drawn numbers -/
theorem lc_ints {J : It} {n : Nat} {G : Hp → Prop} {Y : Nat → Hp → V → Hp → Prop} (w : Walk J n G Y) {g : TG} {tt : TT} {te : TE} {vs : List Nat} {σ : L2.St} {H1 : Hp} {D L : Addr} {Qd : Hp → Prop} (N u : Nat) (lo hi : Int)
    (hD : H1 D = none) (hL : Lf L H1 N) (hG : ∀ H', Go [L] H1 H' → G H') (hn : n ≤ 100000)
    (hs : ∀ (i : Nat) (x : V) (H' H'' : Hp) (Ny : V → Hp → Prop) (Nn : Hp → Prop), i < n → Go [L] H1 H' → Lf L H' (N + u * i) → Y i H' x H'' → (∀ (z : Int) H4, Go [L] H' H4 → Lf L H4 (N + u * i + u) → lo ≤ z → z ≤ hi → Ny (.int z) H4) →
      g x (wipe σ vs) H'' fun σ2 H2 => wipe σ2 vs = wipe σ vs ∧ tt σ2 H2 fun b H3 => if b = true then te σ2 H3 Ny else Nn H3)
    (hd : ∀ (H' : Hp) (ns : List Int), Go [L] H1 H' → Lf L H' (N + u * n) → H' D = some (.lst (ns.map V.int)) → ns.length = n → cIn lo hi ns → Qd H') :
    ∃ W : Nat → Nat → Hp → Prop, (∃ m, W 0 m (upd H1 D (.lst []))) ∧ ∀ i m H, W i m H →
      (J.stop i H ∧ Qd H) ∨ (J.go i H ∧ ∃ Nx : Hp → Prop, (∀ H', Nx H' → ∃ m', m' < m ∧ W (i + 1) m' H') ∧ ∀ x H', J.yld i H x H' → g x (wipe σ vs) H' fun σ2 H2 => wipe σ2 vs = wipe σ vs ∧ tt σ2 H2 fun b H3 =>
        if b = true then te σ2 H3 fun y H4 => ∃ acc, H4 D = some (.lst acc) ∧ acc.length < sizeLine ∧ Nx (upd H4 D (.lst (acc ++ [y]))) else Nx H3) := by
  have nD : D ∉ [L] := hL.bk.ne hD
  refine lc_it w (fun i H' => Go [L] H1 H' ∧ Lf L H' (N + u * i) ∧ ∃ ns : List Int, H' D = some (.lst (ns.map V.int)) ∧ ns.length = i ∧ cIn lo hi ns) ⟨Go.new hD, hL.new hD, [], upd_same, rfl, cIn.nil⟩ (fun i H' _ h => hG H' h.1) (fun i x H' H'' hi h y => ?_) (fun H' h => ?_)
  · obtain ⟨g1, l1, ns, eD, en, cn⟩ := h
    refine hs i x H' H'' _ _ hi g1 l1 y (fun z H4 g4 l4 z0 z1 => ?_)
    have eD4 := g4.k D _ nD eD
    refine ⟨ns.map V.int, g4.k D _ nD eD, sz (by rw [List.length_map]; omega), (g1.trans g4).mut hD, (l4.up (hL.ne hD)).mono (by rw [Nat.mul_succ]; omega), ns ++ [z], ?_, by simp; omega, cn.app z0 z1⟩
    rw [upd_same, List.map_append]
    rfl
  · obtain ⟨g1, l1, ns, eD, en, cn⟩ := h
    exact hd H' ns g1 l1 eD en cn
theorem mat {a : List Int} {i : Nat} {x : V} (h : i < a.length) (e : (a.map V.int)[i]? = some x) : x = .int a[i] := by
  rw [List.getElem?_map, List.getElem?_eq_getElem h] at e
  exact (Option.some.inj e).symm
end Z

set_option Elab.async false
set_option linter.all false
set_option maxRecDepth 100000
namespace Z
open PySem PySem.Spec PyProof.Rows L2
variable [TabCtx]
open PySem.W (dataLt minD alike alikeAll dataLt_tuple dataLt_all_yes dataLt_all_no dataLt_int min_list_data readsAll_at reads_keeps AlikeAll)
/-! ### the least of pairs -/
def enc (p : Int × Int) : PyData := eC [p.1, p.2]
theorem enc_inj {p q : Int × Int} (h : enc p = enc q) : p = q := by
  have h1 : [PyData.int p.1, PyData.int p.2] = [PyData.int q.1, PyData.int q.2] := by
    unfold enc eC at h
    exact PyData.tuple.inj h
  have h2 := (List.cons.inj h1)
  have h3 := (List.cons.inj h2.2)
  exact Prod.ext (PyData.int.inj h2.1) (PyData.int.inj h3.1)
theorem lt_enc (p q : Int × Int) : dataLt (enc p) (enc q) = SrtO.lexB p q := by
  unfold enc eC
  rw [dataLt_tuple]
  simp only [List.map_cons, List.map_nil]
  unfold SrtO.lexB
  by_cases h : p.1 = q.1
  · rw [if_pos h, dataLt_all_yes (by rfl) (by simp [PyData.eqv, h])]
    by_cases h2 : p.2 = q.2
    · rw [dataLt_all_yes (by rfl) (by simp [PyData.eqv, h2]), decide_eq_false (by omega)]
      rfl
    · rw [dataLt_all_no (by rfl) (by simp [PyData.eqv, h2]), dataLt_int]
  · rw [if_neg h, dataLt_all_no (by rfl) (by simp [PyData.eqv, h]), dataLt_int]
def minP (p : Int × Int) (ps : List (Int × Int)) : Int × Int := ps.foldl (fun a y => if SrtO.lexB y a then y else a) p
theorem minD_enc (p : Int × Int) (ps : List (Int × Int)) : minD (enc p) (ps.map enc) = enc (minP p ps) := by
  unfold minD minP
  induction ps generalizing p with
  | nil => rfl
  | cons x r ih =>
    rw [List.map_cons, List.foldl_cons, List.foldl_cons, lt_enc]
    by_cases h : SrtO.lexB x p = true
    · rw [if_pos h, if_pos h]; exact ih x
    · rw [if_neg h, if_neg h]; exact ih p
theorem minP_le (p : Int × Int) (ps : List (Int × Int)) : ∀ q ∈ p :: ps, SrtO.lexB q (minP p ps) = false := by
  unfold minP
  induction ps generalizing p with
  | nil =>
    intro q hq
    rw [List.mem_singleton.mp hq]
    exact SrtO.lexB_no.mpr (by simp only [List.foldl_nil]; omega)
  | cons x r ih =>
    intro q hq
    rw [List.foldl_cons]
    by_cases h : SrtO.lexB x p = true
    · rw [if_pos h]
      rcases List.mem_cons.mp hq with e | e
      · have i1 := SrtO.lexB_no.mp (ih x x (List.mem_cons_self ..))
        have i2 := SrtO.lexB_iff.mp h
        rw [e]
        exact SrtO.lexB_no.mpr (by omega)
      · exact ih x q e
    · rw [if_neg h]
      rcases List.mem_cons.mp hq with e | e
      · exact ih p q (by rw [e]; exact List.mem_cons_self ..)
      · rcases List.mem_cons.mp e with e | e
        · have i1 := SrtO.lexB_no.mp (ih p p (List.mem_cons_self ..))
          have i2 := SrtO.lexB_no.mp (Bool.eq_false_iff.mpr h)
          rw [e]
          exact SrtO.lexB_no.mpr (by omega)
        · exact ih p q (List.mem_cons_of_mem _ e)
theorem alike_enc (p q : Int × Int) : alike (enc p) (enc q) = true := by
  unfold enc eC
  simp [alike, alikeAll]
theorem dep_enc : ∀ ps : List (Int × Int), PyData.depthAll (ps.map enc) ≤ 1
  | [] => Nat.zero_le _
  | p :: ps => by
    rw [List.map_cons, PyData.depthAll]
    exact Nat.max_le.mpr ⟨(sh_eC (ns := [p.1, p.2]) (by simp)).2.1, dep_enc ps⟩
/-- min(xs), xs a list of pairs of ints: one of the least -/
def rMinP (K : PySem.W.Frag) : List V → Hp → VK → Prop := fun vs H Q => ∃ (a : Addr) (xs : List V) (p : Int × Int) (ps : List (Int × Int)), vs = [V.ref a] ∧ SqL K H a xs ∧ DpAll K H xs ((p :: ps).map enc) ∧
  ∀ (i : Nat) (x : V), xs[i]? = some x → (p :: ps)[i]? = some (minP p ps) → Q x H
theorem cr_minP (K : PySem.W.Frag) {X : Cx} (hc : X.calm = true) (hu : X.A.units + 64 < cLine) (hK : X.K = K := by rfl) : CallR X (.builtin "min") (rMinP K) := by
  subst hK
  intro pins s σ H vs us Q I r h
  obtain ⟨a, xs, p, ps, rfl, hs, hd, q⟩ := h
  obtain ⟨its, rv, hl, hz⟩ := I.list hs
  obtain ⟨u, rfl, ru⟩ := vals1 r
  obtain rfl : u = Value.ref a := ru
  obtain ⟨as, hr⟩ := Dp.readsAll I _ xs its hd rv
  rw [List.map_cons] at hr
  have hdep := dep_enc (p :: ps)
  rw [List.map_cons] at hdep
  refine min_list_data (x := enc p) (xs := ps.map enc) (I.ok.hd hc) hl.isList (by simpa using hr) ⟨fun x hx y hy => ?_, fun x hx => ?_⟩ (by omega) fun i v h' tk bs hv rd hk => ?_
  · rw [← List.map_cons] at hx hy
    obtain ⟨x, _, rfl⟩ := List.mem_map.mp hx
    obtain ⟨y, _, rfl⟩ := List.mem_map.mp hy
    exact alike_enc x y
  · rw [← List.map_cons] at hx
    obtain ⟨x, _, rfl⟩ := List.mem_map.mp hx
    intro z
    unfold enc eC at z
    cases z
  · have hv2 : its[i]? = some v := by simpa using hv
    have hi : i < its.length := (List.getElem?_eq_some_iff.mp hv2).1
    have hi2 : i < xs.length := by rw [rv.length]; exact hi
    obtain ⟨w, hw, rw1⟩ := rv.get (List.getElem?_eq_getElem hi2)
    have ew : w = v := Option.some.inj (hw.symm.trans hv2)
    subst ew
    obtain ⟨cs, r1, l1, m1, _⟩ := readsAll_at hr i w hv2
    rw [← List.map_cons] at l1 m1 r1
    rw [List.length_map] at l1
    have eg : ((p :: ps).map enc).getD i .none = enc (p :: ps)[i] := by
      rw [List.getD_eq_getElem?_getD, List.getElem?_map, List.getElem?_eq_getElem l1]
      rfl
    rw [eg] at r1
    rw [minD_enc] at rd
    have ee := SeqAt.Reads.unique _ _ _ _ _ (sh_eC (ns := [((p :: ps)[i]).1, ((p :: ps)[i]).2]) (by simp)).1 (reads_keeps hk r1) rd
    have ep : (p :: ps)[i] = minP p ps := enc_inj ee
    exact ⟨xs[i], H, I.kept (t' := tk) hk, rw1, q i _ (List.getElem?_eq_getElem hi2) (by rw [List.getElem?_eq_getElem l1, ep])⟩
theorem DtA.rev {B : List Addr} {H : Hp} : ∀ {vs : List V} {ds : List PyData}, DtA B H vs ds → DtA B H vs.reverse ds.reverse
  | [], _, h => by
    cases h
    exact .nil
  | v :: vs, _, h => by
    cases h with
    | cons h1 h2 =>
      rw [List.reverse_cons, List.reverse_cons]
      exact (DtA.rev h2).app (.one h1)
theorem DtA.dP {K : PySem.W.Frag} {B : List Addr} {H : Hp} {vs : List V} {ds : List PyData} (h : DtA B H vs ds) : DpAll K H vs ds := DtA.dp ds vs h
/-- a comprehension of drawn data -/
theorem lc_dtsB {J : It} {n : Nat} {G : Hp → Prop} {Y : Nat → Hp → V → Hp → Prop} (w : Walk J n G Y) {g : TG} {tt : TT} {te : TE} {vs : List Nat} {σ : L2.St} {H1 : Hp} {D L : Addr} {B : List Addr} {Qd : Hp → Prop} (N u : Nat) (Pd : PyData → Prop)
    (hD : H1 D = none) (hL : Lf L H1 N) (LB : L ∈ B) (hB : Bk B H1) (hG : ∀ H', Go [L] H1 H' → G H') (hn : n ≤ 100000)
    (hs : ∀ (i : Nat) (x : V) (H' H'' : Hp) (Ny : V → Hp → Prop) (Nn : Hp → Prop), i < n → Go [L] H1 H' → Lf L H' (N + u * i) → Bk (D :: B) H' → Y i H' x H'' → (∀ (v : V) (d : PyData) H4, Go [L] H' H4 → Lf L H4 (N + u * i + u) → Dt (D :: B) H4 v d → Pd d → Ny v H4) →
      g x (wipe σ vs) H'' fun σ2 H2 => wipe σ2 vs = wipe σ vs ∧ tt σ2 H2 fun b H3 => if b = true then te σ2 H3 Ny else Nn H3)
    (hd : ∀ (H' : Hp) (ws : List V) (ds : List PyData), Go [L] H1 H' → Lf L H' (N + u * n) → H' D = some (.lst ws) → DtA (D :: B) H' ws ds → ds.length = n → (∀ d ∈ ds, Pd d) → Qd H') :
    ∃ W : Nat → Nat → Hp → Prop, (∃ m, W 0 m (upd H1 D (.lst []))) ∧ ∀ i m H, W i m H →
      (J.stop i H ∧ Qd H) ∨ (J.go i H ∧ ∃ Nx : Hp → Prop, (∀ H', Nx H' → ∃ m', m' < m ∧ W (i + 1) m' H') ∧ ∀ x H', J.yld i H x H' → g x (wipe σ vs) H' fun σ2 H2 => wipe σ2 vs = wipe σ vs ∧ tt σ2 H2 fun b H3 =>
        if b = true then te σ2 H3 fun y H4 => ∃ acc, H4 D = some (.lst acc) ∧ acc.length < sizeLine ∧ Nx (upd H4 D (.lst (acc ++ [y]))) else Nx H3) := by
  have nD : D ∉ [L] := hL.bk.ne hD
  refine lc_it w (fun i H' => Go [L] H1 H' ∧ Lf L H' (N + u * i) ∧ ∃ ws ds, H' D = some (.lst ws) ∧ DtA (D :: B) H' ws ds ∧ ds.length = i ∧ ∀ d ∈ ds, Pd d) ⟨Go.new hD, hL.new hD, [], [], upd_same, .nil, rfl, fun _ h => (nomatch h)⟩ (fun i H' _ h => hG H' h.1) (fun i x H' H'' hi h y => ?_) (fun H' h => ?_)
  · obtain ⟨g1, l1, ws, ds, eD, hA, en, hp⟩ := h
    refine hs i x H' H'' _ _ hi g1 l1 ((hB.go g1).cons eD) y (fun z d H4 g4 l4 dz pd => ?_)
    have eD4 := g4.k D _ nD eD
    have gm : Go (D :: B) H4 (upd H4 D (.lst (ws ++ [z]))) := Go.refl.at (List.mem_cons_self ..)
    have lw := hA.len
    refine ⟨ws, g4.k D _ nD eD, sz (by omega), (g1.trans g4).mut hD, (l4.up (hL.ne hD)).mono (by rw [Nat.mul_succ]; omega), ws ++ [z], ds ++ [d], upd_same, ((hA.g (g4.w1 (List.mem_cons_of_mem _ LB))).g gm).app (.one (dz.g gm)), by simp; omega, fun e he => ?_⟩
    rcases List.mem_append.mp he with he | he
    · exact hp e he
    · rw [List.mem_singleton.mp he]
      exact pd
  · obtain ⟨g1, l1, ws, ds, eD, hA, en, hp⟩ := h
    exact hd H' ws ds g1 l1 eD hA en hp
/-- a part of a list -/
def cutL {α : Type} (xs : List α) (lo hi : Option Int) : List α := (xs.drop (HT.sIx xs.length 0 lo)).take (HT.sIx xs.length xs.length hi - HT.sIx xs.length 0 lo)
theorem cutL_sub {α : Type} {xs : List α} {lo hi : Option Int} {x : α} (h : x ∈ cutL xs lo hi) : x ∈ xs := List.mem_of_mem_drop (List.mem_of_mem_take h)
theorem cutL_len {α : Type} (xs : List α) (lo hi : Option Int) : (cutL xs lo hi).length ≤ xs.length := by
  unfold cutL
  rw [List.length_take, List.length_drop]
  omega
theorem DtA.drop {B : List Addr} {H : Hp} : ∀ (n : Nat) {vs : List V} {ds : List PyData}, DtA B H vs ds → DtA B H (vs.drop n) (ds.drop n)
  | 0, _, _, h => h
  | n + 1, [], _, h => by cases h; exact .nil
  | n + 1, v :: vs, _, h => by
    cases h with
    | cons h1 h2 => exact DtA.drop n h2
theorem DtA.take {B : List Addr} {H : Hp} : ∀ (n : Nat) {vs : List V} {ds : List PyData}, DtA B H vs ds → DtA B H (vs.take n) (ds.take n)
  | 0, _, _, h => .nil
  | n + 1, [], _, h => by cases h; exact .nil
  | n + 1, v :: vs, _, h => by
    cases h with
    | cons h1 h2 => exact .cons h1 (DtA.take n h2)
theorem DtA.cut {B : List Addr} {H : Hp} {vs : List V} {ds : List PyData} (h : DtA B H vs ds) (lo hi : Option Int) : DtA B H (cutV vs lo hi) (cutL ds lo hi) := by
  unfold cutV cutL
  rw [h.len]
  exact DtA.take _ (DtA.drop _ h)
theorem slice_dt {K : PySem.W.Frag} {B : List Addr} {H : Hp} {x : V} {ds : List PyData} {lo hi : Option Int} {Q : VK} (hx : Dt B H x (.tuple ds)) (hB : Bk B H) (q : ∀ v H', Same H H' → Dt B H' v (.tuple (cutL ds lo hi)) → Q v H') : rSlA K x lo hi H Q := by
  obtain ⟨a, vs, rfl, na, ha, hA⟩ := hx.tupI
  refine ⟨a, vs, rfl, SqT.of ha, fun h => q _ H (Same.refl _) ?_, fun _ p hp => q _ _ (sm_new hp) (.tup (hB.ne hp) upd_same ((hA.cut lo hi).s (sm_new hp)))⟩
  have e : cutL ds lo hi = ds := by
    unfold cutL
    rw [← hA.len, h.1, h.2, List.drop_zero, Nat.sub_zero, hA.len, List.take_length]
  rw [e]
  exact hx
theorem cat_dt {K : PySem.W.Frag} {B : List Addr} {H : Hp} {x y : V} {xs ys : List PyData} {Q : VK} (hx : Dt B H x (.tuple xs)) (hy : Dt B H y (.tuple ys)) (hB : Bk B H) (l : xs.length + ys.length ≤ 100000) (q : ∀ v H', Same H H' → Dt B H' v (.tuple (xs ++ ys)) → Q v H') : rCatA K x y H Q := by
  obtain ⟨a, vs, rfl, na, ha, hA⟩ := hx.tupI
  obtain ⟨b, ws, rfl, nb, hb, hC⟩ := hy.tupI
  have l1 := hA.len
  have l2 := hC.len
  refine ⟨a, b, vs, ws, rfl, rfl, SqT.of ha, SqT.of hb, Nat.le_of_lt (sz (by omega)), fun e => ?_, fun _ e => ?_, fun _ _ p hp => q _ _ (sm_new hp) (.tup (hB.ne hp) upd_same ((hA.app hC).s (sm_new hp)))⟩
  · subst e
    have : xs = [] := List.eq_nil_of_length_eq_zero (by rw [← l1]; rfl)
    subst this
    exact q _ H (Same.refl _) hy
  · subst e
    have : ys = [] := List.eq_nil_of_length_eq_zero (by rw [← l2]; rfl)
    subst this
    exact q _ H (Same.refl _) (by rw [List.append_nil]; exact hx)
theorem sh_cut {ds : List PyData} {k : Nat} {lo hi : Option Int} (h : Sh (.tuple ds) k) : Sh (.tuple (cutL ds lo hi)) k := by
  obtain ⟨j, rfl, h1, h2⟩ := h.tupI
  exact sh_tup (Nat.le_trans (cutL_len _ _ _) h2) fun d hd => h1 d (cutL_sub hd)
theorem sh_cat {xs ys : List PyData} {k : Nat} (h1 : Sh (.tuple xs) k) (h2 : Sh (.tuple ys) k) (l : xs.length + ys.length ≤ 100000) : Sh (.tuple (xs ++ ys)) k := by
  obtain ⟨j, rfl, a1, a2⟩ := h1.tupI
  obtain ⟨j', e, b1, b2⟩ := h2.tupI
  have : j = j' := by omega
  subst this
  exact sh_tup (by simpa using l) fun d hd => by
    rcases List.mem_append.mp hd with h | h
    · exact a1 d h
    · exact b1 d h
/-! ### a comprehension in another one -/
def FrAll (sc : Scope) : List Str → Prop
  | [] => True
  | x :: xs => (sc.names.lookup x = some .cell ∨ sc.names.lookup x = some .free) ∧ FrAll sc xs
theorem FrAll.mem {sc : Scope} : ∀ {xs : List Str}, FrAll sc xs → ∀ x ∈ xs, sc.names.lookup x = some .cell ∨ sc.names.lookup x = some .free
  | [], _, _, h => nomatch h
  | y :: ys, h, x, hx => by
    rcases List.mem_cons.mp hx with e | e
    · rw [e]; exact h.1
    · exact FrAll.mem h.2 x e
def frC (fr : List Str) (scope : Scope) : Bool := scope.names.all fun y => match y.2 with
  | .free => decide (y.1 ∈ fr)
  | _ => true
theorem blkOk_in {N : List Str} {sc scope : Scope} {own : List (Str × Nat)} (fr : List Str) (h : blkC N { kind := .function, names := fr.map fun x => (x, .free), isGenerator := false, isCoroutine := false } scope own = true) (h2 : frC fr scope = true) (hf : FrAll sc fr) : BlkOk N sc scope own := by
  have b := blkOk_by h
  refine ⟨b.kind, b.uniq, b.ix, fun y hy e => ?_, b.own⟩
  have := List.all_eq_true.mp h2 y hy
  rw [e] at this
  exact hf.mem _ (of_decide_eq_true this)
end Z

set_option Elab.async false
set_option linter.all false
set_option maxRecDepth 100000
set_option maxHeartbeats 400000
namespace Z
open PySem PySem.Spec PyProof.Rows L2
variable [TabCtx]
/-! ### '9' * n, and its number -/
def nines (n : Nat) : Str := ⟨(List.replicate n (Str.ofString "9").cps).foldl (· ++ ·) #[]⟩
theorem nines_int : ∀ i : Fin 41, 1 ≤ i.val → PySem.intText? (nines i.val) = some ((10 : Int) ^ i.val - 1) ∧ (nines i.val).length ≤ 640 := by decide +kernel
def rRep9 : R2 := fun x y H Q => ∃ n : Int, x = .str "9" ∧ y = .int n ∧ 1 ≤ n ∧ n ≤ 40 ∧ Q (.str (nines n.toNat)) H
theorem op_rep9 {X : Cx} : OpR X (binaryOp .Mult) rRep9 := by
  intro pins s σ H x y v u Q I rx ry h
  obtain ⟨n, rfl, rfl, n1, n2, q⟩ := h
  obtain ⟨t, rfl⟩ := rx
  obtain ⟨t', rfl⟩ := ry
  have l9 : (Str.ofString "9").length = 1 := by decide
  refine P.mul_str ?_ (fun _ _ => ?_) (fun _ _ => ?_) ?_
  · rw [decide_eq_false (by omega), decide_eq_false (by omega)]; rfl
  · rw [l9]
    have : (1 : Int) ≤ (2 ^ 63 - 1) / n := Int.le_ediv_of_mul_le (by omega) (by omega)
    omega
  · rw [l9, Nat.one_mul]
    have : n.toNat ≤ 40 := by omega
    show decide (n.toNat > sizeLine) = false
    exact decide_eq_false (fun h => absurd (Nat.lt_of_lt_of_le h this) (by decide))
  · rw [if_neg (by omega)]
    by_cases e : n = 1
    · subst e
      exact ⟨.str (nines 1), H, I, ⟨t, rfl⟩, q⟩
    · have e2 : ((n == 1) || (Str.ofString "9").length == 0) = false := by
        rw [l9]
        simp [e]
      rw [e2, if_neg Bool.false_ne_true]
      refine ⟨?_, .str (nines n.toNat), H, I.tok _, ⟨_, rfl⟩, q⟩
      exact Nat.le_trans (nines_int ⟨n.toNat, by omega⟩ (by show 1 ≤ n.toNat; omega)).2 (by decide)
/-! ### fractions: the greatest measure -/
def ab (t : Int) : Nat := t.natAbs
def gm (t b : Int) : Nat := Nat.gcd t.natAbs b.natAbs
def pn (t b : Int) : Int := (if b < 0 then -t else t) / (gm t b : Int)
def pd (t b : Int) : Int := (if b < 0 then -b else b) / (gm t b : Int)
theorem gm_pos {t b : Int} (h : b ≠ 0) : 0 < gm t b := Nat.gcd_pos_of_pos_right _ (by omega)
theorem gm_le {t b : Int} (h : b ≠ 0) : gm t b ≤ b.natAbs := Nat.gcd_le_right _ (by omega)
theorem pd_pos {t b : Int} (h : b ≠ 0) : 0 < pd t b := by
  have h1 := gm_pos (t := t) h
  have h2 := gm_le (t := t) h
  unfold pd
  have : (1 : Int) ≤ (if b < 0 then -b else b) / (gm t b : Int) := Int.le_ediv_of_mul_le (by omega) (by split <;> omega)
  omega
theorem pd_le {t b : Int} (h : b ≠ 0) : pd t b ≤ (b.natAbs : Int) := by
  have h1 := gm_pos (t := t) h
  unfold pd
  have h2 : (if b < 0 then -b else b) = (b.natAbs : Int) := by split <;> omega
  rw [h2]
  exact Int.ediv_le_self _ (by omega)
theorem ediv_natAbs {x g : Int} (h : 0 < g) : (x / g).natAbs ≤ x.natAbs := by
  rcases Int.le_total 0 x with h1 | h1
  · have a := Int.ediv_nonneg h1 (Int.le_of_lt h)
    have b := Int.ediv_le_self g h1
    omega
  · have a : x ≤ x / g := Int.le_ediv_of_mul_le h (by
      have : x * g ≤ x * 1 := Int.mul_le_mul_of_nonpos_left h1 (by omega)
      omega)
    have b : x / g < 1 := Int.ediv_lt_of_lt_mul h (by omega)
    omega
theorem pn_le {t b : Int} (h : b ≠ 0) : (pn t b).natAbs ≤ t.natAbs := by
  have h1 := gm_pos (t := t) h
  unfold pn
  refine Nat.le_trans (ediv_natAbs (by omega)) ?_
  split <;> omega
/-! ### // by a great number of either sign -/
def CDivN2 (_ j : Int) : Prop := j ≠ 0 ∧ j.natAbs.log2 < 9000
theorem op_fdivM {X : Cx} : OpR X (binaryOp .FloorDiv) (rI CDivN2 fun i j => .int (i.fdiv j)) := opI fun _ _ _ _ _ _ _ hc q => floordiv_int hc.1 q (.inl (PyProof.noPylong_of_log2 hc.2))
theorem fdiv_neg' {t g : Int} (h : 0 < g) : t.fdiv (-g) = (-t) / g := by
  have e : t.fdiv (-g) = (-t).fdiv g := by
    rw [← Int.neg_fdiv_neg (-t) g, Int.neg_neg]
  rw [e, Int.fdiv_eq_ediv_of_nonneg _ (by omega)]
theorem gm_dvd_l (t b : Int) : (gm t b : Int) ∣ t := Int.ofNat_dvd_left.mpr (Nat.gcd_dvd_left _ _)
theorem gm_dvd_r (t b : Int) : (gm t b : Int) ∣ b := Int.ofNat_dvd_left.mpr (Nat.gcd_dvd_right _ _)
theorem pn_mul {t b : Int} (h : b ≠ 0) : pn t b * (gm t b : Int) = if b < 0 then -t else t := by
  unfold pn
  refine Int.ediv_mul_cancel ?_
  split
  · exact Int.dvd_neg.mpr (gm_dvd_l t b)
  · exact gm_dvd_l t b
theorem pd_mul {t b : Int} (h : b ≠ 0) : pd t b * (gm t b : Int) = if b < 0 then -b else b := by
  unfold pd
  refine Int.ediv_mul_cancel ?_
  split
  · exact Int.dvd_neg.mpr (gm_dvd_r t b)
  · exact gm_dvd_r t b
theorem cross {t b : Int} (h : b ≠ 0) : pn t b * b = t * pd t b := by
  have g0 : (gm t b : Int) ≠ 0 := by have := gm_pos (t := t) h; omega
  have e1 := pn_mul (t := t) h
  have e2 := pd_mul (t := t) h
  refine Int.eq_of_mul_eq_mul_right g0 ?_
  have a1 : pn t b * b * (gm t b : Int) = (pn t b * (gm t b : Int)) * b := by rw [Int.mul_assoc, Int.mul_comm b, ← Int.mul_assoc]
  have a2 : t * pd t b * (gm t b : Int) = t * (pd t b * (gm t b : Int)) := Int.mul_assoc ..
  rw [a1, a2, e1, e2]
  split
  · rw [Int.neg_mul, Int.mul_neg]
  · rfl
theorem gm_low {t b : Int} (h : b ≠ 0) : gm (pn t b) (pd t b) = 1 := by
  have gp := gm_pos (t := t) h
  have e1 := pn_mul (t := t) h
  have e2 := pd_mul (t := t) h
  have n1 : (pn t b).natAbs * gm t b = t.natAbs := by
    have := congrArg Int.natAbs e1
    rw [Int.natAbs_mul, Int.natAbs_natCast] at this
    rw [this]
    split <;> omega
  have n2 : (pd t b).natAbs * gm t b = b.natAbs := by
    have := congrArg Int.natAbs e2
    rw [Int.natAbs_mul, Int.natAbs_natCast] at this
    rw [this]
    split <;> omega
  have h3 : gm (pn t b) (pd t b) * gm t b = gm t b := by
    show Nat.gcd (pn t b).natAbs (pd t b).natAbs * gm t b = gm t b
    rw [← Nat.gcd_mul_right, n1, n2]
    rfl
  exact Nat.eq_of_mul_eq_mul_right gp (by rw [h3, Nat.one_mul])
theorem pn_low {t b : Int} (h : b ≠ 0) : pn (pn t b) (pd t b) = pn t b := by
  have hp := pd_pos (t := t) h
  show (if pd t b < 0 then -(pn t b) else pn t b) / (gm (pn t b) (pd t b) : Int) = pn t b
  rw [gm_low h, if_neg (by omega)]
  exact Int.ediv_one _
theorem pd_low {t b : Int} (h : b ≠ 0) : pd (pn t b) (pd t b) = pd t b := by
  have hp := pd_pos (t := t) h
  show (if pd t b < 0 then -(pd t b) else pd t b) / (gm (pn t b) (pd t b) : Int) = pd t b
  rw [gm_low h, if_neg (by omega)]
  exact Int.ediv_one _
end Z

set_option Elab.async false
set_option linter.all false
set_option maxRecDepth 100000
namespace Z
open PySem PySem.Spec PyProof.Rows L2 L2.DX
variable [TabCtx]
/-! ### sorted(d.items()), keys tuples of ints, values ints -/
def entI (e : List Int × Int) : List L2.Key × V := (e.1.map Sum.inl, V.int e.2)
def eRow (e : List Int × Int) : PyData := .tuple [eC e.1, .int e.2]
theorem kV_ints (ns : List Int) : (ns.map Sum.inl).map kV = ns.map V.int := by
  rw [List.map_map]
  rfl
theorem reads_ints {h : Heap} : ∀ {ns : List Int} {us : List Value}, Vals (ns.map V.int) us → ReadsAll h us (ns.map .int) []
  | [], _, r => by
    cases r
    exact .nil
  | n :: ns, _, r => by
    cases r with
    | cons r1 r2 =>
      obtain ⟨t, rfl⟩ := r1
      exact ReadsAll.cons (as := []) (bs := []) (.int n t) (reads_ints r2)
theorem zipped {α β : Type} {R : α → β → Prop} : ∀ {as : List α} {bs : List β}, PySem.W.EachIs R as bs → ∃ zs : List (α × β), zs.map Prod.fst = as ∧ zs.map Prod.snd = bs ∧ ∀ z ∈ zs, R z.1 z.2
  | _, _, .nil => ⟨[], rfl, rfl, fun _ h => nomatch h⟩
  | a :: as, b :: bs, .cons h t => by
    obtain ⟨zs, e1, e2, h3⟩ := zipped t
    refine ⟨(a, b) :: zs, by rw [List.map_cons, e1], by rw [List.map_cons, e2], fun z hz => ?_⟩
    rcases List.mem_cons.mp hz with e | e
    · rw [e]; exact h
    · exact h3 z e
theorem fm_some {α : Type} (f : Nat → α) : ∀ n : Nat, (List.range n).filterMap (fun i => some (f i)) = (List.range n).map f := fun n => by
  rw [← List.filterMap_eq_map]
  rfl
def rSortII : List V → Hp → VK → Prop := fun vs H Q => ∃ (p a : Addr) (ks : List (List Int × Int)), vs = [.ref p] ∧ H p = some (itemsO p a) ∧ H a = some (.dT (ks.map entI)) ∧ ks.length ≤ 1000 ∧
  ∀ (H' : Hp) (l : Addr) (ps : List (Addr × List Int × Int)), Same H H' → H l = none → ((ps.map (·.2)).Perm ks ∧ ps.map (·.2) = ks.mergeSort (PySem.W.dataLe false eRow)) → H' l = some (.lst (ps.map fun z => V.ref z.1)) →
    (∀ z ∈ ps, ∃ q, H z.1 = none ∧ H' z.1 = some (.tup [.ref q, .int z.2.2]) ∧ H q = some (.tup (z.2.1.map V.int))) → Q (.ref l) H'
section
variable {X : Cx}
theorem set_dictU (hu : X.A.units + 64 < cLine) : PSet X rSetD := set_dict (by omega)
theorem cr_sortedII (hc : X.calm = true) (hu : X.A.units + 64 < cLine) : CallR X (.builtin "sorted") rSortII := by
  intro pins s σ H xs us Q I r h
  obtain ⟨p, a, ks, rfl, hp, ha, h64, q⟩ := h
  obtain rfl := Vals.ref1 r
  have view : s.heap.IsItemsView p a := (show ObjOk X.prog X.w H s.heap p (itemsO p a) from I.hok p _ hp).1
  obtain ⟨z, hd, xs', rel, o, es, ep, ho, hx, hdat, hes, his, hn⟩ := dt_of I.hok ha
  have l1 : (ks.map entI).length = xs'.length := Paired.length rel
  rw [List.length_map] at l1
  have l2 : es.size = xs'.length := size_of_entries hes
  have hh : X.A.handled = none := I.ok.hd hc
  refine DT.sortedI (es := es) (ep := ep) hh view ⟨o, ho, hx, hdat⟩ (by rw [sizeLine_eq]; omega) fun h' tk as hk hlt hl hG => ?_
  have lak : as.length = ks.length := by omega
  have nd : as.Nodup := List.Pairwise.imp (fun h => Nat.ne_of_lt h) hG.rise
  have pr : ∀ (j : Nat) (b : Addr), as[j]? = some b → ∃ (e : List Int × Int) (kq : Addr) (t : Tok), ks[j]? = some e ∧ H kq = some (.tup (e.1.map V.int)) ∧ h'.get? b = some { cls := .type "tuple", data := .seq #[Value.ref kq, Value.int e.2 t] } := by
    intro j b hj
    obtain ⟨en, he, hg⟩ := hG.pairs j b hj
    rw [entry_at hes j] at he
    cases hxj : xs'[j]? with
    | none =>
      rw [hxj] at he
      exact nomatch (show (none : Option DictEntry) = some en from he)
    | some x =>
      rw [hxj] at he
      have een : entryOfKey (tupleKind (mixKind X.prog X.w)) x = en := Option.some.inj he
      obtain ⟨e0, he0, r1, r2, r3⟩ := pget rel hxj
      rw [List.getElem?_map] at he0
      cases hkj : ks[j]? with
      | none =>
        rw [hkj] at he0
        exact nomatch (show (none : Option (List L2.Key × V)) = some e0 from he0)
      | some e =>
        rw [hkj] at he0
        have ee : entI e = e0 := Option.some.inj he0
        rw [← ee] at r2 r3
        obtain ⟨t, r3'⟩ : ∃ t, x.2.2 = Value.int e.2 t := r3
        refine ⟨e, x.2.1, t, rfl, ?_, ?_⟩
        · have r2' : H x.2.1 = some (.tup ((e.1.map Sum.inl).map kV)) := r2
          rw [kV_ints] at r2'
          exact r2'
        · rw [hg, ← een, ← r3']
          all_goals rfl
  have hob : (h'.push { cls := .type "list", data := .seq (as.map Value.ref).toArray }).get? h'.objs.size = some (seqObj "list" (as.map Value.ref).toArray 0) := Heap.get?_push_size _ rfl
  have kb : ∀ b o, s.heap.get? b = some o → (h'.push { cls := .type "list", data := .seq (as.map Value.ref).toArray }).get? b = some o := fun b o e => Heap.get?_push_of_some _ (hk b o e)
  have ne0 : ∀ b o, h'.get? b = some o → b ≠ h'.objs.size := fun b o e => Nat.ne_of_lt (Heap.lt_size e)
  generalize hh2 : h'.push { cls := .type "list", data := .seq (as.map Value.ref).toArray } = h2 at hob kb ⊢
  have ka : ∀ b o, h'.get? b = some o → h2.get? b = some o := fun b o e => by rw [← hh2]; exact Heap.get?_push_of_some _ e
  have rd : ∀ (j : Nat) (b : Addr) (e : List Int × Int), as[j]? = some b → ks[j]? = some e → Reads h2 (.ref b) (eRow e) [] := by
    intro j b e hj he
    obtain ⟨e', kq, t, he', hkq, hg⟩ := pr j b hj
    have ee : e' = e := Option.some.inj (he'.symm.trans he)
    subst ee
    obtain ⟨_, its, rv, ot, hot, hct, nt, hdt⟩ := (show ObjOk X.prog X.w H s.heap kq (.tup (e'.1.map V.int)) from I.hok kq _ hkq)
    refine .tuple (ka _ _ hg) rfl rfl ?_
    refine ReadsAll.cons (as := []) (bs := []) (Reads.tuple (kb _ _ hot) hct hdt ?_) (ReadsAll.cons (as := []) (bs := []) (.int _ t) .nil)
    have := reads_ints (h := h2) rv
    simpa using this
  have lens : (as.map Value.ref).length = ks.length := by rw [List.length_map, lak]
  have zidx : ∀ pz ∈ (as.map Value.ref).zip ks, ∃ (j : Nat) (b : Addr), pz.1 = .ref b ∧ as[j]? = some b ∧ ks[j]? = some pz.2 := by
    intro pz hpz
    obtain ⟨j, hj⟩ := List.mem_iff_getElem?.mp hpz
    obtain ⟨h1, h2'⟩ := List.getElem?_zip_eq_some.mp hj
    rw [List.getElem?_map] at h1
    cases e : as[j]? with
    | none => rw [e] at h1; cases h1
    | some b =>
      rw [e] at h1
      exact ⟨j, b, (Option.some.inj h1).symm, e, h2'⟩
  refine PySem.W.list_sort_data (s := { s with heap := h2, toks := tk }) (A := X.A.in1) (n := 0) (vs := as.map Value.ref) (bs := ks) (enc := eRow) (R := fun v e => ∃ (j : Nat) (b : Addr), v = .ref b ∧ as[j]? = some b ∧ ks[j]? = some e) hob
    (PySem.W.EachIs.of_zip lens zidx) (PySem.W.EachIs.of_zip lens fun pz hpz => ?_) (PySem.W.AllAlike.of fun b b' => ?_) (PySem.W.Sortable.tuples fun b => ⟨_, _, rfl⟩) (by rw [sizeLine_eq]; omega) (fun b _ => ?_) fun out lo eo => ?_
  · obtain ⟨j, b, e1, e2, e3⟩ := zidx pz hpz
    rw [e1]
    exact ⟨[], rd j b _ e2 e3, fun h => nomatch h⟩
  · unfold eRow eC
    simp [PySem.W.alike, PySem.W.alikeAll, PySem.W.alike_ints]
  · have : (eRow b).depth = 2 := by
      unfold eRow eC
      simp [PyData.depth, PyData.depthAll, PySem.W.depth_ints]
    show X.A.units + 1 + 1 + (eRow b).depth < cLine
    omega
  · show EP X pins σ Q (.ref h'.objs.size) { s with heap := sortedHeap h2 h'.objs.size (as.map Value.ref) out.toArray, toks := tk }
    obtain ⟨zs0, z1, z2, z3⟩ := zipped eo
    -- the addresses
    obtain ⟨zs, w1, w2, w3⟩ : ∃ zs : List (Addr × List Int × Int), zs.map (fun z => Value.ref z.1) = out ∧ zs.map (·.2) = ks.mergeSort (PySem.W.dataLe false eRow) ∧ ∀ z ∈ zs, ∃ j : Nat, as[j]? = some z.1 ∧ ks[j]? = some z.2 := by
      rw [← z1, ← z2]
      clear z1 z2 eo lo
      induction zs0 with
      | nil => exact ⟨[], rfl, rfl, fun _ h => nomatch h⟩
      | cons y ys ih =>
        obtain ⟨zs, w1, w2, w3⟩ := ih fun z hz => z3 z (List.mem_cons_of_mem _ hz)
        obtain ⟨j, b, e1, e2, e3⟩ := z3 y (List.mem_cons_self ..)
        refine ⟨(b, y.2) :: zs, by rw [List.map_cons, List.map_cons, w1, e1], by rw [List.map_cons, List.map_cons, w2], fun z hz => ?_⟩
        rcases List.mem_cons.mp hz with e | e
        · rw [e]; exact ⟨j, e2, e3⟩
        · exact w3 z e
    have hperm : (zs.map (·.2)).Perm ks := by
      rw [w2]
      exact List.mergeSort_perm _ _
    have kF : ∀ b o, b ≠ h'.objs.size → h2.get? b = some o → (sortedHeap h2 h'.objs.size (as.map Value.ref) out.toArray).get? b = some o := fun b o hb e => (PyProof.Rows.sortedHeap_old hb (Heap.lt_size e)).trans e
    have kS : ∀ b o, s.heap.get? b = some o → (sortedHeap h2 h'.objs.size (as.map Value.ref) out.toArray).get? b = some o := fun b o e => kF b o (ne0 _ _ (hk b o e)) (kb b o e)
    obtain ⟨eF, heF⟩ := PyProof.Rows.sortedHeap_at (vs := as.map Value.ref) (out := out.toArray) hob
    have I1 : Inv X pins σ H { s with heap := sortedHeap h2 h'.objs.size (as.map Value.ref) out.toArray, toks := tk } := I.kept (t' := tk) kS
    have hn0 : H h'.objs.size = none := I.hok.fresh (Nat.le_of_lt hlt)
    have hlen : (zs.map fun z => V.ref z.1).length ≤ sizeLine := by
      have e := hperm.length_eq
      rw [List.length_map] at e
      rw [List.length_map, sizeLine_eq]
      omega
    have rv : Vals (zs.map fun z => V.ref z.1) out.toArray.toList := by
      show Vals _ out
      rw [← w1]
      exact vals_maps (fun z : Addr × List Int × Int => V.ref z.1) (fun z => Value.ref z.1) zs fun _ _ => rfl
    have I2 : Inv X pins σ (upd H h'.objs.size (.lst (zs.map fun z => V.ref z.1))) { s with heap := sortedHeap h2 h'.objs.size (as.map Value.ref) out.toArray, toks := tk } :=
      I1.take (h' := sortedHeap h2 h'.objs.size (as.map Value.ref) out.toArray) (t' := tk) (fun b ob _ e => e) (I.fpOk (Nat.le_of_lt hlt) hn0) ⟨hlen, out.toArray.toList, eF, rv, heF⟩
    obtain ⟨H2, I3, g, qt⟩ := takeT (P := fun b vs => ∃ (j : Nat) (e : List Int × Int) (kq : Addr), as[j]? = some b ∧ ks[j]? = some e ∧ vs = [.ref kq, .int e.2] ∧ H kq = some (.tup (e.1.map V.int))) I as _ I2 nd fun b hb => by
      obtain ⟨j, hj⟩ := List.mem_iff_getElem?.mp hb
      obtain ⟨e, kq, t, he, hkq, hg⟩ := pr j b hj
      have hbl : s.heap.objs.size ≤ b := Nat.le_of_lt (hG.above b hb)
      refine ⟨hbl, ?_, [.ref kq, .int e.2], ⟨j, e, kq, hj, he, rfl, hkq⟩, fun H3 => ⟨(by rw [sizeLine_eq]; show 2 ≤ 16777216; omega), [Value.ref kq, Value.int e.2 t], .cons rfl (.cons ⟨t, rfl⟩ .nil), ⟨_, kF _ _ (ne0 _ _ hg) (ka _ _ hg), rfl, 0, rfl⟩⟩⟩
      rw [upd_ne (ne0 _ _ hg)]
      exact I.hok.fresh hbl
    have gr : ∀ b o, H b = some o → H2 b = some o := fun b o e => g b o (by rw [upd_ne (ne_of_none e hn0)]; exact e)
    refine ⟨.ref h'.objs.size, H2, I3, rfl, q H2 h'.objs.size zs gr hn0 ⟨hperm, w2⟩ (g _ _ upd_same) fun z' hz' => ?_⟩
    obtain ⟨i, i1, i2⟩ := w3 z' hz'
    obtain ⟨vs, ⟨j, e, kq, j1, j2, ev, hkq⟩, hH⟩ := qt z'.1 (List.mem_of_getElem? i1)
    have eij : i = j := (List.getElem?_inj (List.getElem?_eq_some_iff.mp i1).1 nd).mp (i1.trans j1.symm)
    subst eij
    have ee : e = z'.2 := Option.some.inj (j2.symm.trans i2)
    rw [ev, ee] at hH
    rw [ee] at hkq
    exact ⟨kq, I.hok.fresh (Nat.le_of_lt (hG.above _ (List.mem_of_getElem? i1))), hH, hkq⟩
end
end Z

set_option Elab.async false
set_option linter.all false
set_option maxRecDepth 100000
set_option maxHeartbeats 400000
namespace Z
open PySem PySem.Spec PyProof.Rows L2
variable [TabCtx]
/-! ### fractions as numbers -/
theorem pn_q {t b : Int} (h : b ≠ 0) : pn t b = (Rat.divInt t b).num := by
  rw [Rat.num_divInt]
  unfold pn gm
  rw [show Int.gcd b t = Nat.gcd t.natAbs b.natAbs from Nat.gcd_comm _ _]
  congr 1
  by_cases h0 : b < 0
  · rw [if_pos h0, Int.sign_eq_neg_one_of_neg h0]; omega
  · rw [if_neg h0, Int.sign_eq_one_of_pos (by omega)]; omega
theorem pd_q {t b : Int} (h : b ≠ 0) : pd t b = ((Rat.divInt t b).den : Int) := by
  rw [Rat.den_divInt, if_neg h]
  unfold pd gm
  rw [show Int.gcd b t = Nat.gcd t.natAbs b.natAbs from Nat.gcd_comm _ _, Int.natCast_ediv]
  congr 1
  split <;> omega
/-- x over M, its top at most A -/
def Fr (M A : Nat) (x : Rat) : Prop := ∃ a : Int, x = Rat.divInt a M ∧ a.natAbs ≤ A
theorem Fr.den {M A : Nat} {x : Rat} (h : Fr M A x) (hM : 0 < M) : x.den ≤ M := by
  obtain ⟨a, rfl, _⟩ := h
  rw [Rat.den_divInt, if_neg (by omega)]
  exact Nat.le_trans (Nat.div_le_self _ _) (by omega)
theorem ediv_nat {x : Int} (g : Nat) : (x / (g : Int)).natAbs ≤ x.natAbs := by
  rcases Nat.eq_zero_or_pos g with h | h
  · subst h; simp
  rcases Int.le_total 0 x with h1 | h1
  · have a := Int.ediv_nonneg h1 (Int.natCast_nonneg g)
    have b := Int.ediv_le_self (g : Int) h1
    omega
  · have a : x ≤ x / (g : Int) := Int.le_ediv_of_mul_le (by omega) (by
      have : x * (g : Int) ≤ x * 1 := Int.mul_le_mul_of_nonpos_left h1 (by omega)
      omega)
    have b : x / (g : Int) < 1 := Int.ediv_lt_of_lt_mul (by omega) (by omega)
    omega
theorem Fr.num {M A : Nat} {x : Rat} (h : Fr M A x) (hM : 0 < M) : x.num.natAbs ≤ A := by
  obtain ⟨a, rfl, ha⟩ := h
  rw [Rat.num_divInt, Int.sign_eq_one_of_pos (by omega), Int.one_mul]
  exact Nat.le_trans (ediv_nat _) ha
theorem Fr.add {M A B : Nat} {x y : Rat} (hM : 0 < M) (h : Fr M A x) (h2 : Fr M B y) : Fr M (A + B) (x + y) := by
  obtain ⟨a, rfl, ha⟩ := h
  obtain ⟨b, rfl, hb⟩ := h2
  refine ⟨a + b, ?_, by omega⟩
  have hm : (M : Int) ≠ 0 := by omega
  rw [Rat.divInt_add_divInt _ _ hm hm, ← Int.add_mul, Rat.divInt_mul_right hm]
theorem Fr.mul {M N A B : Nat} {x y : Rat} (h : Fr M A x) (h2 : Fr N B y) : Fr (M * N) (A * B) (x * y) := by
  obtain ⟨a, rfl, ha⟩ := h
  obtain ⟨b, rfl, hb⟩ := h2
  refine ⟨a * b, by rw [Rat.divInt_mul_divInt, Int.natCast_mul], ?_⟩
  rw [Int.natAbs_mul]
  exact Nat.mul_le_mul ha hb
theorem Fr.neg {M A : Nat} {x : Rat} (h : Fr M A x) : Fr M A (-x) := by
  obtain ⟨a, rfl, ha⟩ := h
  exact ⟨-a, by rw [Rat.neg_divInt], by omega⟩
theorem Fr.mono {M A B : Nat} {x : Rat} (h : Fr M A x) (l : A ≤ B) : Fr M B x := by
  obtain ⟨a, e, ha⟩ := h
  exact ⟨a, e, by omega⟩
theorem Fr.int {M A : Nat} {n : Int} (hM : 0 < M) (h : n.natAbs ≤ A) : Fr M (A * M) (n : Rat) := by
  refine ⟨n * M, ?_, ?_⟩
  · have hm : (M : Int) ≠ 0 := by omega
    have : Rat.divInt (n * M) (1 * M) = Rat.divInt n 1 := Rat.divInt_mul_right hm
    rw [Int.one_mul] at this
    rw [this, ← Rat.num_divInt_den (n : Rat)]
    rfl
  · rw [Int.natAbs_mul, Int.natAbs_natCast]
    exact Nat.mul_le_mul_right _ h
theorem Fr.of {t b : Int} {M A : Nat} (hb : 0 < b) (hd : b ∣ (M : Int)) (hM : 0 < M) (hA : t.natAbs * M ≤ A) : Fr M A (Rat.divInt t b) := by
  obtain ⟨k, hk⟩ := hd
  have k0 : 0 < k := by
    have h0 : 0 < b * k := by omega
    rcases Int.lt_or_le 0 k with z | z
    · exact z
    · have := Int.mul_nonpos_of_nonneg_of_nonpos (Int.le_of_lt hb) z
      omega
  refine ⟨t * k, ?_, ?_⟩
  · rw [hk, Rat.divInt_mul_right (by omega)]
  · refine Nat.le_trans ?_ hA
    rw [Int.natAbs_mul]
    refine Nat.mul_le_mul_left _ ?_
    have : k ≤ b * k := by
      have : 1 * k ≤ b * k := Int.mul_le_mul_of_nonneg_right (by omega) (by omega)
      omega
    omega
/-- how far a colour is from a middle, by places -/
def sq (x : Rat) : Rat := x * x
def farN (c : List Int) (m : List Rat) : Nat → Rat
  | 0 => 0
  | i + 1 => farN c m i + sq ((c.getD i 0 : Rat) - m.getD i 0)
theorem Fr.sub {M A B : Nat} {x y : Rat} (hM : 0 < M) (h : Fr M A x) (h2 : Fr M B y) : Fr M (A + B) (x - y) := by
  rw [Rat.sub_eq_add_neg]
  exact h.add hM h2.neg
theorem Fr.zero {M A : Nat} (hM : 0 < M) : Fr M A 0 := by
  refine ⟨0, ?_, by simp⟩
  rw [Rat.zero_divInt]
theorem farN_fr {c : List Int} {m : List Rat} {M A C : Nat} (hM : 0 < M) (hc : ∀ i, (c.getD i 0).natAbs ≤ C) (hm : ∀ z ∈ m, Fr M A z) : ∀ i, Fr (M * M) (i * ((C * M + A) * (C * M + A))) (farN c m i)
  | 0 => Fr.zero (Nat.mul_pos hM hM)
  | i + 1 => by
    rw [Nat.succ_mul]
    have hz : Fr M A (m.getD i 0) := by
      rw [List.getD_eq_getElem?_getD]
      cases e : m[i]? with
      | none => exact Fr.zero hM
      | some z => exact hm z (List.mem_of_getElem? e)
    have g := (Fr.int hM (hc i)).sub hM hz
    exact (farN_fr hM hc hm i).add (Nat.mul_pos hM hM) (g.mul g)
theorem farN_nonneg (c : List Int) (m : List Rat) : ∀ i, 0 ≤ farN c m i
  | 0 => Rat.le_refl
  | i + 1 => Rat.add_nonneg (farN_nonneg c m i) (by
    unfold sq
    rcases Rat.nonneg_total ((c.getD i 0 : Rat) - m.getD i 0) with h | h
    · exact Rat.mul_nonneg h h
    · have := Rat.mul_nonneg h h
      rw [Rat.neg_mul, Rat.mul_neg, Rat.neg_neg] at this
      exact this)
/-- the first of the least -/
def argF (f : Nat → Rat) : Nat → Nat
  | 0 => 0
  | i + 1 => if f i < f (argF f i) then i else argF f i
theorem argF_lt (f : Nat → Rat) : ∀ n, 0 < n → argF f n < n
  | 0, h => absurd h (by omega)
  | n + 1, _ => by
    rw [argF]
    split
    · omega
    · rcases Nat.eq_zero_or_pos n with e | e
      · subst e; exact Nat.zero_lt_one
      · have := argF_lt f n e; omega
/-- small enough to reckon with -/
def lim : Nat := 2 ^ 2000
def lim2 : Nat := 2 ^ 4000
def Qb (x : Rat) : Prop := x.den < lim ∧ x.num.natAbs < lim
theorem Fr.qb {M A : Nat} {x : Rat} (h : Fr M A x) (hM : 0 < M) (h1 : M < lim) (h2 : A < lim) : Qb x := ⟨Nat.lt_of_le_of_lt (h.den hM) h1, Nat.lt_of_le_of_lt (h.num hM) h2⟩
theorem qq (x : Rat) : Rat.divInt x.num (x.den : Int) = x := Rat.num_divInt_den x
theorem add_q (p r : Rat) : Rat.divInt (p.num * r.den + r.num * p.den) (p.den * r.den) = p + r := by
  have h1 : (p.den : Int) ≠ 0 := by have := p.den_nz; omega
  have h2 : (r.den : Int) ≠ 0 := by have := r.den_nz; omega
  rw [← Rat.divInt_add_divInt _ _ h1 h2, qq, qq]
theorem mul_q (p r : Rat) : Rat.divInt (p.num * r.num) (p.den * r.den) = p * r := by
  rw [← Rat.divInt_mul_divInt, qq, qq]
theorem lt_q (p r : Rat) : decide (p.num * r.den < r.num * p.den) = decide (p < r) := decide_eq_decide.mpr (Rat.lt_iff p r).symm
def qp (x : Rat) : Int × Int := (x.num, (x.den : Int))
theorem lim_lim : lim * lim ≤ lim2 := by unfold lim lim2; rw [← Nat.pow_add]; exact Nat.le_refl _
theorem mul_lim {a b : Nat} (h1 : a < lim) (h2 : b < lim) : a * b < lim2 := Nat.lt_of_lt_of_le (Nat.mul_lt_mul'' h1 h2) lim_lim
theorem lim_mul {i j : Int} (h1 : i.natAbs < lim2) (h2 : j.natAbs < lim2) : CMulW i j := wide_mul (a := 4000) (b := 4000) h1 h2 (by decide) (by decide) (by decide)
theorem lim_le : lim ≤ lim2 := Nat.pow_le_pow_right (by decide) (by decide)
theorem to_lim {a b : Nat} (h : a ≤ b) (hb : b < lim := by decide +kernel) : a < lim := Nat.lt_of_le_of_lt h hb
theorem to_lim2 {a b : Nat} (h : a ≤ b) (hb : b < lim2 := by decide +kernel) : a < lim2 := Nat.lt_of_le_of_lt h hb
theorem lim_div {i j : Int} (h : 0 < j) (hb : j.natAbs < lim2) : CDivW i j := wide_div (b := 4000) h hb (by decide) (by decide)
theorem lim_divN {i j : Int} (h : j ≠ 0) (hb : j.natAbs < lim2) : CDivN2 i j := ⟨h, Nat.lt_of_lt_of_le (PySem.Flt.log2_lt_of (k := 4000) (by decide) hb) (by decide)⟩
end Z

set_option Elab.async false
set_option linter.all false
set_option maxRecDepth 100000
set_option maxHeartbeats 400000
namespace Z
open PySem PySem.Spec PyProof.Rows L2
variable [TabCtx]
/-! ### lists of lists -/
def eN (ns : List (List Int)) : PyData := .list (ns.map eI)
def eG (ps : List (List (List Int))) : PyData := .list (ps.map eP)
theorem sh_eN {ns : List (List Int)} (l : ns.length ≤ 100000) (h : ∀ c ∈ ns, c.length ≤ 100000) : Sh (eN ns) 2 := sh_lst (by simpa using l) fun d hd => by
  obtain ⟨n, m, rfl⟩ := List.mem_map.mp hd
  exact sh_eI (h n m)
theorem sh_eG {ps : List (List (List Int))} (l : ps.length ≤ 100000) (h : ∀ p ∈ ps, p.length ≤ 100000 ∧ ∀ c ∈ p, c.length ≤ 100000) : Sh (eG ps) 3 := sh_lst (by simpa using l) fun d hd => by
  obtain ⟨n, m, rfl⟩ := List.mem_map.mp hd
  exact sh_eP (h n m).1 (h n m).2
theorem DtA.mk {B : List Addr} {H : Hp} : ∀ {vs : List V} {ds : List PyData}, vs.length = ds.length → (∀ (i : Nat) v d, vs[i]? = some v → ds[i]? = some d → Dt B H v d) → DtA B H vs ds
  | [], [], _, _ => .nil
  | [], _ :: _, h, _ => nomatch h
  | _ :: _, [], h, _ => nomatch h
  | v :: vs, d :: ds, h, f => .cons (f 0 v d rfl rfl) (DtA.mk (by simpa using h) fun i v d h1 h2 => f (i + 1) v d h1 h2)
theorem DtA.two {B : List Addr} {H : Hp} {vs : List V} {ds : List PyData} {i : Nat} {v : V} {d : PyData} (h : DtA B H vs ds) (h1 : vs[i]? = some v) (h2 : ds[i]? = some d) : Dt B H v d := by
  obtain ⟨d', e, h3⟩ := h.getV h1
  rw [h2] at e
  cases e
  exact h3
theorem at2i (x y : Int) (b : Bool) : ∃ z : Int, atI [V.int x, V.int y] (if b = true then 1 else 0) = some (.int z) ∧ (z = x ∨ z = y) := by
  cases b
  · exact ⟨x, rfl, .inl rfl⟩
  · exact ⟨y, rfl, .inr rfl⟩
theorem ixN_last {n : Nat} (h : 0 < n) : ixN n (-1) = some (n - 1) := by
  unfold ixN
  rw [if_neg (by omega), if_pos (by omega)]
  congr 1
  omega
theorem DtA.set {B : List Addr} {H : Hp} {v : V} {d : PyData} : ∀ {vs : List V} {ds : List PyData} (j : Nat), DtA B H vs ds → Dt B H v d → DtA B H (vs.set j v) (ds.set j d)
  | [], _, _, h, _ => by cases h; exact .nil
  | _ :: _, _, 0, h, hv => by cases h with | cons h1 h2 => exact .cons hv h2
  | _ :: _, _, j + 1, h, hv => by cases h with | cons h1 h2 => exact .cons h1 (DtA.set j h2 hv)
theorem Dt.lst2 {B : List Addr} {H : Hp} {v : V} {ds : List PyData} (h : Dt B H v (.list ds)) : ∃ a vs, v = .ref a ∧ a ∉ B ∧ H a = some (.lst vs) ∧ DtA B H vs ds := by
  cases h with
  | lst n hs ha => exact ⟨_, _, rfl, n, hs, ha⟩
theorem cut_fromV {α : Type} (xs : List α) {n : Int} (h0 : 0 ≤ n) : cutL xs (some n) none = xs.drop n.toNat := by
  unfold cutL
  have e : HT.sIx xs.length 0 (some n) = min n.toNat xs.length := by
    show (if n < 0 then (n + (xs.length : Int)).toNat else min n.toNat xs.length) = _
    rw [if_neg (by omega)]
  have e2 : HT.sIx xs.length xs.length none = xs.length := rfl
  rw [e, e2]
  rcases Nat.le_total n.toNat xs.length with h | h
  · rw [Nat.min_eq_left h, List.take_of_length_le (by rw [List.length_drop]; omega)]
  · rw [Nat.min_eq_right h, List.drop_of_length_le (Nat.le_refl _), List.drop_of_length_le h, List.take_nil]
theorem cut_toV {α : Type} (xs : List α) {n : Int} (h0 : 0 ≤ n) : cutL xs none (some n) = xs.take n.toNat := by
  unfold cutL
  have e : HT.sIx xs.length xs.length (some n) = min n.toNat xs.length := by
    show (if n < 0 then (n + (xs.length : Int)).toNat else min n.toNat xs.length) = _
    rw [if_neg (by omega)]
  have e2 : HT.sIx xs.length 0 none = 0 := rfl
  rw [e, e2, List.drop_zero, Nat.sub_zero]
  rcases Nat.le_total n.toNat xs.length with h | h
  · rw [Nat.min_eq_left h]
  · rw [Nat.min_eq_right h, List.take_length, List.take_of_length_le h]
theorem pg_lstK {X : Cx} (K : PySem.W.Frag) {pos : Pos} {es : List Expr} {kk : Nat} {t : TGs} {n : Nat} (hc : X.calm = true) (h : PGs X es t) (hn : (assignEach es X.env).length = n := by rfl) (hst : (assignEach es X.env).findIdx? (·.1) = none := by rfl) (h2 : X.K = K := by rfl) : PG X (.Tuple es kk pos) (gLst K n t) :=
  h2 ▸ pg_lst hc h hn hst
theorem pi_zipAK {X : Cx} (K : PySem.W.Frag) {e e2 : Expr} {ta : TA} {p pos tpos : Pos} {elts : List Expr} {kk : Nat} (hg : Gl X "zip") (hm : X.mg "zip" = none) (ha : PA X [e, e2] ta)
    (hs : starEach [e, e2] X.env = (false, eval e X.env) :: starEach [e2] X.env := by rfl) (hpl : (backTo pos (starEach [e2] X.env)).any (·.1) = false := by rfl) (hK : X.K = K := by rfl) :
    PI X (.Tuple elts kk tpos) (.Call (.Name "zip" p) [e, e2] [] pos) (RZ.iZipA K ta) := by
  subst hK
  exact RZ.pi_zipA hg hm ha hs hpl
theorem yesT {σ : L2.St} {H : Hp} {A N : Hp → Prop} (h : A H) : tYes σ H (fun b H3 => if b = true then A H3 else N H3) := by
  show if true = true then A H else N H
  rw [if_pos rfl]
  exact h
/-- any walk -/
theorem walk_W {J : It} {n : Nat} {G : Hp → Prop} {Y : Nat → Hp → V → Hp → Prop} (w : Walk J n G Y) {R : (Hp → Prop) → V → Hp → Prop} {Qd : Hp → Prop} {H0 : Hp} (Pv : Nat → Hp → Prop) (h0 : Pv 0 H0) (hG : ∀ i H, i ≤ n → Pv i H → G H) (hs : ∀ i x H H', i < n → Pv i H → Y i H x H' → R (Pv (i + 1)) x H') (hd : ∀ H, Pv n H → Qd H) :
    ∃ W : Nat → Nat → Hp → Prop, (∃ m, W 0 m H0) ∧ ∀ i m H, W i m H → (J.stop i H ∧ Qd H) ∨ (J.go i H ∧ ∃ Nx : Hp → Prop, (∀ H', Nx H' → ∃ m', m' < m ∧ W (i + 1) m' H') ∧ ∀ x H', J.yld i H x H' → R Nx x H') := by
  obtain ⟨w1, w2, w3⟩ := w
  refine ⟨fun i m H => i ≤ n ∧ m = n - i ∧ Pv i H, ⟨n, Nat.zero_le _, rfl, h0⟩, fun i m H h => ?_⟩
  obtain ⟨hi, hm, hp⟩ := h
  have g := hG i H hi hp
  by_cases e : i = n
  · subst e
    exact .inl ⟨w2 _ g, hd _ hp⟩
  · refine .inr ⟨w1 i H (by omega) g, Pv (i + 1), fun H' h' => ⟨n - (i + 1), by omega, by omega, rfl, h'⟩, fun x H' y => ?_⟩
    exact hs i x H H' (by omega) hp (w3 i H x H' (by omega) g y)
theorem colsOf {Pc : List Int → Prop} : ∀ {ds : List PyData}, (∀ d ∈ ds, ∃ c, d = eC c ∧ Pc c) → ∃ cs : List (List Int), ds = cs.map eC ∧ ∀ c ∈ cs, Pc c
  | [], _ => ⟨[], rfl, fun _ h => nomatch h⟩
  | d :: ds, h => by
    obtain ⟨m, e, hm⟩ := colsOf (ds := ds) fun x hx => h x (List.mem_cons_of_mem _ hx)
    obtain ⟨z, ez, hz⟩ := h d (List.mem_cons_self ..)
    refine ⟨z :: m, by rw [e, ez]; rfl, fun y hy => ?_⟩
    rcases List.mem_cons.mp hy with q | q
    · rw [q]; exact hz
    · exact hm y q
/-- a list whose items are new lists, each another one; what is in these was there ahead -/
structure Rws (B : List Addr) (H H' : Hp) (D : Addr) (rs : List Addr) (dss : List (List PyData)) : Prop where
  len : rs.length = dss.length
  nd : rs.Nodup
  nD : D ∉ rs
  fr : ∀ r ∈ rs, H r = none
  row : ∀ (i : Nat) r ds, rs[i]? = some r → dss[i]? = some ds → ∃ ws, H' r = some (.lst ws) ∧ DtA B H ws ds
section
variable {B C : List Addr} {H H' H2 : Hp} {D p : Addr} {rs : List Addr} {dss : List (List PyData)}
theorem Rws.s (h : Rws B H H' D rs dss) (s : Same H' H2) : Rws B H H2 D rs dss := ⟨h.len, h.nd, h.nD, h.fr, fun i r ds h1 h2 => by
  obtain ⟨ws, e, a⟩ := h.row i r ds h1 h2
  exact ⟨ws, s _ _ e, a⟩⟩
theorem Rws.up {o : HO} (h : Rws B H H' D rs dss) (n : p ∉ rs) : Rws B H (upd H' p o) D rs dss := ⟨h.len, h.nd, h.nD, h.fr, fun i r ds h1 h2 => by
  obtain ⟨ws, e, a⟩ := h.row i r ds h1 h2
  refine ⟨ws, ?_, a⟩
  rw [upd_ne (fun z => n (by rw [← z]; exact List.mem_of_getElem? h1))]
  exact e⟩
theorem Rws.go (h : Rws B H H' D rs dss) (g : Go C H' H2) (n : ∀ r ∈ rs, r ∉ C) : Rws B H H2 D rs dss := ⟨h.len, h.nd, h.nD, h.fr, fun i r ds h1 h2 => by
  obtain ⟨ws, e, a⟩ := h.row i r ds h1 h2
  exact ⟨ws, g.k _ _ (n r (List.mem_of_getElem? h1)) e, a⟩⟩
theorem Rws.tail {r : Addr} {ds : List PyData} (h : Rws B H H' D (r :: rs) (ds :: dss)) : Rws B H H' D rs dss := ⟨by simpa using h.len, (List.nodup_cons.mp h.nd).2, fun z => h.nD (List.mem_cons_of_mem _ z), fun x hx => h.fr x (List.mem_cons_of_mem _ hx), fun i x ds h1 h2 => h.row (i + 1) x ds h1 h2⟩
theorem Rws.dt (h : Rws B H H' D rs dss) (b : Bk B H) (s : Go B H H') : DtA B H' (rs.map V.ref) (dss.map PyData.list) := by
  refine DtA.mk (by rw [List.length_map, List.length_map]; exact h.len) fun i v d h1 h2 => ?_
  rw [List.getElem?_map] at h1 h2
  cases e1 : rs[i]? with
  | none => rw [e1] at h1; cases h1
  | some r =>
    cases e2 : dss[i]? with
    | none => rw [e2] at h2; cases h2
    | some ds =>
      rw [e1] at h1
      rw [e2] at h2
      cases h1
      cases h2
      obtain ⟨ws, e, a⟩ := h.row i r ds e1 e2
      exact .lst (b.ne (h.fr r (List.mem_of_getElem? e1))) e (a.g s)
end
/-- a comprehension of known values -/
theorem lc_vals {J : It} {n : Nat} {G : Hp → Prop} {Y : Nat → Hp → V → Hp → Prop} (w : Walk J n G Y) {g : TG} {tt : TT} {te : TE} {vs : List Nat} {σ : L2.St} {H1 : Hp} {D : Addr} {Qd : Hp → Prop}
    (hD : H1 D = none) (hG : ∀ H', Same H1 H' → G H') (hn : n ≤ 100000) (f : Nat → V)
    (hs : ∀ (i : Nat) (x : V) (H' H'' : Hp) (Ny : V → Hp → Prop) (Nn : Hp → Prop), i < n → Same H1 H' → Y i H' x H'' → (∀ H4, Same H' H4 → Ny (f i) H4) →
      g x (wipe σ vs) H'' fun σ2 H2 => wipe σ2 vs = wipe σ vs ∧ tt σ2 H2 fun b H3 => if b = true then te σ2 H3 Ny else Nn H3)
    (hd : ∀ (H' : Hp), Same H1 H' → H' D = some (.lst ((List.range n).map f)) → Qd H') :
    ∃ W : Nat → Nat → Hp → Prop, (∃ m, W 0 m (upd H1 D (.lst []))) ∧ ∀ i m H, W i m H →
      (J.stop i H ∧ Qd H) ∨ (J.go i H ∧ ∃ Nx : Hp → Prop, (∀ H', Nx H' → ∃ m', m' < m ∧ W (i + 1) m' H') ∧ ∀ x H', J.yld i H x H' → g x (wipe σ vs) H' fun σ2 H2 => wipe σ2 vs = wipe σ vs ∧ tt σ2 H2 fun b H3 =>
        if b = true then te σ2 H3 fun y H4 => ∃ acc, H4 D = some (.lst acc) ∧ acc.length < sizeLine ∧ Nx (upd H4 D (.lst (acc ++ [y]))) else Nx H3) := by
  refine lc_it w (fun i H' => Same H1 H' ∧ H' D = some (.lst ((List.range i).map f))) ⟨sm_new hD, upd_same⟩ (fun i H' _ h => hG H' h.1) (fun i x H' H'' hi h y => ?_) (fun H' h => hd H' h.1 h.2)
  obtain ⟨s1, eD⟩ := h
  refine hs i x H' H'' _ _ hi s1 y (fun H4 s4 => ?_)
  refine ⟨_, s4 _ _ eD, sz (by rw [List.length_map, List.length_range]; omega), sm_mut (s1.trans s4) hD, ?_⟩
  rw [upd_same, List.range_succ, List.map_append]
  rfl
/-- a comprehension of new lists -/
theorem lc_rows {J : It} {n : Nat} {G : Hp → Prop} {Y : Nat → Hp → V → Hp → Prop} (w : Walk J n G Y) {g : TG} {tt : TT} {te : TE} {vs : List Nat} {σ : L2.St} {H1 : Hp} {D : Addr} {Qd : Hp → Prop} (B : List Addr)
    (hD : H1 D = none) (hG : ∀ H', Same H1 H' → G H') (hn : n ≤ 100000) (e : Nat → List PyData)
    (hs : ∀ (i : Nat) (x : V) (H' H'' : Hp) (Ny : V → Hp → Prop) (Nn : Hp → Prop), i < n → Same H1 H' → Y i H' x H'' → (∀ r ws H4, Same H' H4 → H' r = none → H4 r = some (.lst ws) → DtA B H1 ws (e i) → Ny (.ref r) H4) →
      g x (wipe σ vs) H'' fun σ2 H2 => wipe σ2 vs = wipe σ vs ∧ tt σ2 H2 fun b H3 => if b = true then te σ2 H3 Ny else Nn H3)
    (hd : ∀ (H' : Hp) (rs : List Addr), Same H1 H' → H' D = some (.lst (rs.map V.ref)) → Rws B H1 H' D rs ((List.range n).map e) → Qd H') :
    ∃ W : Nat → Nat → Hp → Prop, (∃ m, W 0 m (upd H1 D (.lst []))) ∧ ∀ i m H, W i m H →
      (J.stop i H ∧ Qd H) ∨ (J.go i H ∧ ∃ Nx : Hp → Prop, (∀ H', Nx H' → ∃ m', m' < m ∧ W (i + 1) m' H') ∧ ∀ x H', J.yld i H x H' → g x (wipe σ vs) H' fun σ2 H2 => wipe σ2 vs = wipe σ vs ∧ tt σ2 H2 fun b H3 =>
        if b = true then te σ2 H3 fun y H4 => ∃ acc, H4 D = some (.lst acc) ∧ acc.length < sizeLine ∧ Nx (upd H4 D (.lst (acc ++ [y]))) else Nx H3) := by
  refine lc_it w (fun i H' => Same H1 H' ∧ ∃ rs, H' D = some (.lst (rs.map V.ref)) ∧ Rws B H1 H' D rs ((List.range i).map e)) ⟨sm_new hD, [], upd_same, ⟨rfl, List.nodup_nil, (fun h => nomatch h), (fun _ h => nomatch h), (fun i r ds h => by simp at h)⟩⟩ (fun i H' _ h => hG H' h.1) (fun i x H' H'' hi h y => ?_) (fun H' h => ?_)
  · obtain ⟨s1, rs, eD, R⟩ := h
    have hl : rs.length = i := by rw [R.len, List.length_map, List.length_range]
    refine hs i x H' H'' _ _ hi s1 y (fun r ws H4 s4 hr er ha => ?_)
    have nr : r ≠ D := fun z => by rw [z, eD] at hr; cases hr
    have nrs : r ∉ rs := fun z => by
      obtain ⟨j, hj, ej⟩ := List.getElem_of_mem z
      obtain ⟨ws', e', _⟩ := R.row j r (e j) (by rw [List.getElem?_eq_getElem hj, ej]) (by rw [List.getElem?_map, List.getElem?_range (by omega)]; rfl)
      rw [e'] at hr
      cases hr
    refine ⟨_, s4 _ _ eD, sz (by rw [List.length_map]; omega), sm_mut (s1.trans s4) hD, rs ++ [r], by rw [upd_same, List.map_append]; rfl, ?_⟩
    have R4 := (R.s s4).up (o := .lst (rs.map V.ref ++ [.ref r])) (R.nD)
    refine ⟨by simp [hl], ?_, ?_, fun z hz => ?_, fun j z ds h1 h2 => ?_⟩
    · rw [List.nodup_append]
      refine ⟨R.nd, by simp, fun a ha b hb => ?_⟩
      rw [List.mem_singleton.mp hb]
      exact fun q => nrs (by rw [← q]; exact ha)
    · intro q
      rcases List.mem_append.mp q with q | q
      · exact R.nD q
      · exact nr (List.mem_singleton.mp q).symm
    · rcases List.mem_append.mp hz with q | q
      · exact R.fr z q
      · rw [List.mem_singleton.mp q]
        exact s1.free hr
    · rw [List.getElem?_append] at h1
      rw [List.range_succ, List.map_append, List.getElem?_append, List.length_map, List.length_range] at h2
      by_cases c : j < rs.length
      · rw [if_pos c] at h1
        rw [if_pos (by omega)] at h2
        exact R4.row j z ds h1 h2
      · rw [if_neg c] at h1
        rw [if_neg (by omega)] at h2
        have j0 : j - rs.length = 0 := by
          cases q : j - rs.length with
          | zero => rfl
          | succ m => rw [q] at h1; simp at h1
        rw [j0] at h1
        rw [show j - i = 0 by omega] at h2
        cases h1
        cases h2
        refine ⟨ws, ?_, ha⟩
        rw [upd_ne nr]
        exact er
  · obtain ⟨s1, rs, eD, R⟩ := h
    exact hd H' rs s1 eD R
end Z

set_option Elab.async false
set_option linter.all false
set_option maxRecDepth 100000
set_option maxHeartbeats 400000
namespace Z
open PySem PySem.Spec PyProof.Rows L2
variable [TabCtx]
/-! ### sorted(xs), xs a list of data -/
theorem each_lift {α β γ : Type} {R : α → β → Prop} {R' : γ → β → Prop} {S : γ → α → Prop} (f : ∀ a b, R a b → ∃ c, S c a ∧ R' c b) : ∀ {as : List α} {bs : List β}, PySem.W.EachIs R as bs → ∃ cs : List γ, Paired S cs as ∧ PySem.W.EachIs R' cs bs
  | _, _, .nil => ⟨[], .nil, .nil⟩
  | a :: as, b :: bs, .cons h t => by
    obtain ⟨cs, h1, h2⟩ := each_lift f t
    obtain ⟨c, h3, h4⟩ := f a b h
    exact ⟨c :: cs, .cons h3 h1, .cons h4 h2⟩
theorem rdAll {h : Heap} : ∀ {vs : List Value} {ds : List PyData} {as : List Addr}, ReadsAll h vs ds as → vs.length = ds.length ∧ ∀ (j : Nat) v d, vs[j]? = some v → ds[j]? = some d → ∃ as, Reads h v d as
  | [], _, _, hh => by
    cases hh
    exact ⟨rfl, fun j v d h => by simp at h⟩
  | v :: vs, _, _, hh => by
    cases hh with
    | cons h1 h2 =>
      have ih := rdAll h2
      refine ⟨by rw [List.length_cons, List.length_cons, ih.1], fun j v d e1 e2 => ?_⟩
      cases j with
      | zero =>
        cases e1
        cases e2
        exact ⟨_, h1⟩
      | succ j => exact ih.2 j v d (by simpa using e1) (by simpa using e2)
def rSortedD (K : PySem.W.Frag) : List V → Hp → VK → Prop := fun vs H Q => ∃ (a : Addr) (xs : List V) (β : Type) (enc : β → PyData) (bs : List β), vs = [.ref a] ∧ SqL K H a xs ∧ DpAll K H xs (bs.map enc) ∧ PySem.W.AllAlike (bs.map enc) ∧ PySem.W.Sortable (bs.map enc) ∧ bs.length ≤ 10000 ∧ (∀ b ∈ bs, (enc b).depth ≤ 50) ∧
  ∀ (ys : List V) (p : Addr), PySem.W.EachIs (fun y b => ∃ j : Nat, xs[j]? = some y ∧ bs[j]? = some b) ys (bs.mergeSort (PySem.W.dataLe false enc)) → H p = none → Q (.ref p) (upd H p (.lst ys))
theorem cr_sortedD (K : PySem.W.Frag) {X : Cx} (hu : X.A.units + 64 < cLine) (hK : X.K = K := by rfl) : CallR X (.builtin "sorted") (rSortedD K) := by
  subst hK
  intro pins s σ H vs us Q I r h
  obtain ⟨a, xs, β, enc, bs, rfl, hs, hd, hal, hso, hl, hdep, q⟩ := h
  obtain ⟨its, rv, hp, hz⟩ := I.list hs
  obtain ⟨u, rfl, ru⟩ := vals1 r
  obtain rfl : u = Value.ref a := ru
  obtain ⟨as, hr⟩ := Dp.readsAll I _ xs its hd rv
  have le1 : its.length = xs.length := rv.length.symm
  have ra := @rdAll _ s.heap
  have le2 : its.length = bs.length := by
    have := (ra hr).1
    rwa [List.length_map] at this
  have zx : ∀ pz ∈ its.zip bs, ∃ j : Nat, its[j]? = some pz.1 ∧ bs[j]? = some pz.2 := by
    intro pz hpz
    obtain ⟨j, hj⟩ := List.mem_iff_getElem?.mp hpz
    obtain ⟨h1, h2⟩ := List.getElem?_zip_eq_some.mp hj
    exact ⟨j, h1, h2⟩
  refine PySem.W.sorted_data (enc := enc) (bs := bs) (R := fun v b => ∃ j : Nat, its[j]? = some v ∧ bs[j]? = some b) hp.isList (PySem.W.EachIs.of_zip le2 zx) (PySem.W.EachIs.of_zip le2 fun pz hpz => ?_) hal hso (by have : sizeLine = 16777216 := rfl; omega) (fun b hb => by have := hdep b hb; omega) fun out lo eo => ?_
  · obtain ⟨j, e1, e2⟩ := zx pz hpz
    exact (ra hr).2 j _ _ e1 (by rw [List.getElem?_map, e2]; rfl)
  · obtain ⟨ys, v1, v2⟩ := each_lift (S := L2.RelV) (R' := fun y b => ∃ j : Nat, xs[j]? = some y ∧ bs[j]? = some b) (fun v b h => by
      obtain ⟨j, e1, e2⟩ := h
      have hj : j < its.length := (List.getElem?_eq_some_iff.mp e1).1
      obtain ⟨u, hu, ru⟩ := rv.get (List.getElem?_eq_getElem (show j < xs.length by omega))
      rw [e1] at hu
      cases hu
      exact ⟨_, ru, j, List.getElem?_eq_getElem (by omega), e2⟩) eo
    obtain ⟨e, he⟩ := sortedAll_at s.heap its out.toArray
    have ly : ys.length = out.length := Paired.length v1
    refine ⟨.ref (s.heap.objs.size + 1), upd H (s.heap.objs.size + 1) (.lst ys), I.laid (fun b o e => sortedAll_old e) (by omega) ⟨by have : sizeLine = 16777216 := rfl; omega, out, e, v1, he⟩, rfl, q ys _ v2 (I.hok.fresh (by omega))⟩
/-- what is sorted is what was there -/
theorem each_mem {xs : List V} {β : Type} {bs cs : List β} {ys : List V} (h : PySem.W.EachIs (fun y b => ∃ j : Nat, xs[j]? = some y ∧ bs[j]? = some b) ys cs) {B : List Addr} {H : Hp} {enc : β → PyData} (hA : DtA B H xs (bs.map enc)) : DtA B H ys (cs.map enc) := by
  induction h with
  | nil => exact .nil
  | cons h t ih =>
    obtain ⟨j, e1, e2⟩ := h
    exact .cons (hA.two e1 (by rw [List.getElem?_map, e2]; rfl)) ih
end Z

set_option Elab.async false
set_option linter.all false
set_option maxRecDepth 100000
namespace Z
open PySem PySem.Spec PyProof.Rows L2
variable [TabCtx]
theorem Fr.scale {M A N : Nat} {x : Rat} (h : Fr M A x) (hN : 0 < N) : Fr (M * N) (A * N) x := by
  obtain ⟨a, rfl, ha⟩ := h
  refine ⟨a * N, ?_, ?_⟩
  · rw [Int.natCast_mul, Rat.divInt_mul_right (by omega)]
  · rw [Int.natAbs_mul, Int.natAbs_natCast]
    exact Nat.mul_le_mul_right _ ha
end Z

set_option Elab.async false
set_option linter.all false
set_option maxRecDepth 100000
set_option maxHeartbeats 400000
namespace Z
open PySem PySem.Spec PyProof.Rows L2
variable [TabCtx]
/-! ### a def that is called where nothing is being shown -/
structure FnG (P : Program) (w : World) (K : PySem.W.Frag) (mg : Str → Option Value) (base : Heap) (k : Nat) (f : Addr) (fd : FuncData) (ps : List Str) (sp : Sp) : Prop where
  run : ∀ (A : Around) (outer : List Env) (s : Shared) (H : Hp) (args : Args) (us : List Value) (vs : List V) (Q : VK) (E : XK), A.guards = some [] → Room k A → Env0 P w K mg base A outer s H → BindsTo s fd args (ps.zip us) → Vals vs us → sp vs H Q E → codeAny (model P w) A (Code.call (Value.ref f) args) (CR CX0 outer P w H s Q E) s
theorem fn_g {P : Program} {w : World} {K : PySem.W.Frag} {mg : Str → Option Value} {base : Heap} {x qual : Str} {st : Stmt} {f : Addr} {fd : FuncData} {N ps : List Str} {k : Nat} {sp : Sp} (F : Fun K x qual st f fd) (S : FnScope N ps (defScope st))
    (len : ∀ (vs : List V) (H : Hp) (Q : VK) (E : XK), sp vs H Q E → vs.length = ps.length)
    (hbody : ∀ (cdv : Value) (A : Around) (outer : List Env) (s : Shared) (H : Hp) (vs : List V) (Q : VK) (E : XK), A.guards = some [] → Room k (A.deeper (envOfC qual (defScope st) s.heap.objs.size f cdv)) → sp vs H Q E →
      ∃ t, PSs (cxOf CX0 P w K mg base N qual (defScope st) f cdv A outer s H E).nox (defBody st) t ∧ t { nx := fun _ H' => Q V.non H', rt := Q } (L2.start N vs) H) : FnG P w K mg base (k + 1) f fd ps sp := by
  obtain ⟨oc, od, kV, doc, pm, an, cdv, ct, osl, rfl, lk, hcd⟩ := F.ex
  refine ⟨fun A outer s H args us vs Q E hA hr e0 hb r hsp => ?_⟩
  have hl := len vs H Q E hsp
  have KX := PySem.W.Frag.In.keeps e0.mod.kin fun b o e => (e0.bs b o e).left
  have lim := Heap.NoLimit.keeps e0.mod.nolimit fun b o e => (e0.bs b o e).left
  refine codeAny_call_function (Room.depth hr) (KX f _ lk) rfl S.co S.gen rfl (PySem.W.codeRec_of KX hcd) (hb (model P w) A.in1 (fun e s' => CR CX0 outer P w H s Q E (Except.error e) s') _ (wpAny_newFunctionEnv_cells S.kind ?hk fun env he s1 x => ?_))
  case hk =>
    rintro ⟨n, v⟩ hy
    rcases S.par n (List.of_mem_zip hy).left with q | q
    · exact Or.inl q
    · exact Or.inr ⟨q, PySem.W.cellsFrom_some (defScope st).names (s.heap.objs.size + 1) [] (Or.inl q)⟩
  subst he
  refine ⟨Heap.NoLimit.keeps lim x.toInCall.keep, codeAny_func ?_⟩
  obtain ⟨t, ht, hq⟩ := hbody cdv A outer s H vs Q E hA (Room.deeper hr (envOfC qual (defScope st) s.heap.objs.size f cdv)) hsp
  have I := inv_start (CX := CX0) (E := E) S hr.hd e0 hl r x
  refine wpAny_mono ((PSs.nox ht).run [] s1 (L2.start N vs) H { nx := fun _ H' => Q V.non H', rt := Q } I hq) (fun fl s' hs => ?_) (fun e s' hs => hs)
  cases fl with
  | next =>
    obtain ⟨σ', H', J, q⟩ := hs
    exact ⟨V.non, H', J.os, J.bare, J.base, J.hok, rfl, q⟩
  | brk =>
    obtain ⟨_, _, _, q⟩ := hs
    exact q.elim
  | cont =>
    obtain ⟨_, _, _, q⟩ := hs
    exact q.elim
  | ret u =>
    obtain ⟨v, σ', H', J, rv, q⟩ := hs
    exact ⟨v, H', J.os, J.bare, J.base, J.hok, rv, q⟩
theorem law_call2 {P : Program} {w : World} {K : PySem.W.Frag} {mg mb : Str → Option Value} {k : Nat} {fa a : Addr} {fd : FuncData} {x : Str} {sp : Sp} {s₁ : Shared} {vs : List Value} {ns : List Int} (KX : K.In s₁.heap) (hns : s₁.heap.Ns mainGlobals mg) (hb : s₁.heap.Ns builtinsNs mb)
    (hbb : ∀ x : Str, x ≠ Str.ofString "__name__" → mb x = bootBuiltins x) (hlim : s₁.heap.NoLimit) (hg : s₁.gens = #[]) (ha : s₁.heap.get? a = some { cls := Value.type "list", data := Data.seq vs.toArray }) (hi : IntsAre vs ns) (hl : ns.length ≤ sizeLine) (hr : Room k callerA)
    (F : ∀ base : Heap, K.In base → base.Ns mainGlobals mg → FnG P w K mg base k fa fd [x] sp) (hbind : ∀ (s : Shared) (u : Value), BindsTo s fd { pos := [u] } [(x, u)])
    (hsp : ∀ H : Hp, Only H → SqL K H a (ns.map V.int) → sp [V.ref a] H (fun v _ => v = V.bl true) fun _ _ _ => False) :
    codeAny (model P w) callerA (Code.call (Value.ref fa) { pos := [Value.ref a] }) (fun r s' => r = Except.ok (Flow.ret (Value.bool true)) ∧ OldK s₁.heap s'.heap ∧ s'.os = s₁.os ∧ AllBare s'.gens) s₁ := by
  have rv := vals_ints hi
  have lenV := hi.length
  have core : ∀ H : Hp, Only H → SqL K H a (ns.map V.int) → HOk P w H s₁.heap → (∀ b, H b ≠ none → b = a) → (H a ≠ none → List.lookup a K = none) →
      codeAny (model P w) callerA (Code.call (Value.ref fa) { pos := [Value.ref a] }) (fun r s' => r = Except.ok (Flow.ret (Value.bool true)) ∧ OldK s₁.heap s'.heap ∧ s'.os = s₁.os ∧ AllBare s'.gens) s₁ := by
    intro H hO hS hok hA hK
    have noA : ∀ {b : Addr} {o : Obj} {es ep}, s₁.heap.get? b = some o → o.data = Data.dict es ep → H b = none := by
      intro b o es ep e d
      cases q : H b with
      | none => rfl
      | some u =>
        have e' := hA b (by rw [q]; exact fun z => nomatch z)
        subst e'
        rw [ha] at e
        cases e
        cases d
    have nsK : ∀ {b : Addr} {m : Str → Option Value}, s₁.heap.Ns b m → (hidT s₁.heap H).Ns b m := by
      rintro b m ⟨o, es, ep, e, d, r⟩
      exact ⟨o, es, ep, hidT_get e (noA e d), d, r⟩
    have hKb : K.In (hidT s₁.heap H) := by
      intro b o e
      refine hidT_get (KX b o e) ?_
      cases q : H b with
      | none => rfl
      | some u =>
        have e' := hA b (by rw [q]; exact fun z => nomatch z)
        subst e'
        rw [hK (by rw [q]; exact fun z => nomatch z)] at e
        cases e
    have hM : L2.Mod K mg (hidT s₁.heap H) := ⟨hKb, nsK hns, ⟨mb, nsK hb, hbb⟩, by
      obtain ⟨mc, h1, h2⟩ := hlim
      exact ⟨mc, nsK h1, h2⟩⟩
    have e0 : Env0 P w K mg (hidT s₁.heap H) callerA [] s₁ H := ⟨rfl, hM, fun b o e => of_hidT e, Nat.le_of_eq (hidT_size s₁.heap H), trivial, fun b hb => absurd (show b ∈ ([] : List Addr) from hb) (by simp), hok, AllBare.of_eq hg⟩
    refine codeAny_mono ((F _ hKb (nsK hns)).run callerA [] s₁ H { pos := [Value.ref a] } [Value.ref a] [V.ref a] (fun v _ => v = V.bl true) (fun _ _ _ => False) rfl hr e0 (hbind s₁ (Value.ref a)) (Paired.cons rfl Paired.nil) (hsp H hO hS)) fun r s' h => ?_
    cases r with
    | error e => exact False.elim h
    | ok fl =>
      cases fl with
      | next => exact False.elim h
      | brk => exact False.elim h
      | cont => exact False.elim h
      | ret u =>
        obtain ⟨v, H', os, bare, un, hok', r', q⟩ := h
        subst q
        have eu : u = Value.bool true := r'
        subst eu
        refine ⟨rfl, OldK.of_keep fun b o e => ?_, os, bare⟩
        cases q : H b with
        | none => exact un.keep b o e q (fun z => absurd (show b ∈ ([] : List Addr) from z) (by simp)) (by simp)
        | some u =>
          rcases hO b with z | ⟨ob, xs, z⟩
          · rw [q] at z
            cases z
          · have z2 := un.frzs b ob (HO.lst xs) z
            obtain ⟨e1, _⟩ := hok b (HO.frz ob (HO.lst xs)) z
            obtain ⟨e2, _⟩ := hok' b (HO.frz ob (HO.lst xs)) z2
            rw [e] at e1
            cases e1
            exact e2
  cases hk : List.lookup a K with
  | none =>
    refine core (fun b => if b = a then some (HO.frz { cls := Value.type "list", data := Data.seq vs.toArray } (HO.lst (ns.map V.int))) else none) (fun b => ?_) (Or.inl (Or.inr ⟨_, if_pos rfl⟩)) (fun b u z => ?_) (fun b z => ?_) (fun _ => hk)
    · by_cases hb : b = a
      · exact .inr ⟨_, _, if_pos hb⟩
      · exact .inl (if_neg hb)
    · by_cases hb : b = a
      · have z' := (if_pos hb).symm.trans z
        cases z'
        subst hb
        exact ⟨ha, by rw [List.length_map]; exact hl, vs, 0, rv, ha⟩
      · have z' := (if_neg hb).symm.trans z
        cases z'
    · by_cases hb : b = a
      · exact hb
      · exact absurd (if_neg hb) z
  | some o =>
    have e := KX a o hk
    rw [ha] at e
    cases e
    refine core (fun _ => none) (fun _ => .inl rfl) (Or.inr ⟨_, vs.toArray, 0, hk, rfl, rfl, rfl, by rw [List.size_toArray, lenV]; exact hl, rv⟩) (fun b u z => ?_) (fun b z => absurd rfl z) (fun z => absurd rfl z)
    cases z
theorem walk_of2 {l : PySem.W.OpenLaw} {n k : Nat} {q : Program} {loose : List Str} {XP : (Str → Option Value) → Heap → Prop} {YP : World → Heap → Prop} {d : DefRec} {K : Params → PySem.W.Frag} {sp : World → Sp} {x : Str} (hn : l.most = some n) (hn2 : n ≤ sizeLine) (hdf : d.params.defaults = []) (hr : Room k callerA)
    (hY : ∀ (w : World) (h : Heap), YP w h → (K w.params).In h)
    (F : ∀ (w : World) (mg : Str → Option Value) (fa : Addr) (h : Heap), (K w.params).In h → h.Ns mainGlobals mg → mg d.name = some (Value.ref fa) → ∃ fd, (∀ (s : Shared) (u : Value), BindsTo s fd { pos := [u] } [(x, u)]) ∧ ∀ base : Heap, (K w.params).In base → base.Ns mainGlobals mg → FnG l.prog w (K w.params) mg base k fa fd [x] (sp w))
    (hsp : ∀ (w : World) (H : Hp) (a : Addr) (ns : List Int), ns.length ≤ n → Only H → SqL (K w.params) H a (ns.map V.int) → sp w [V.ref a] H (fun v _ => v = V.bl true) fun _ _ _ => False) :
    PySem.W.WalkO q loose XP YP l.row.toRowW d [] fun f vs => call f vs :=
  Att.attach_call hn hdf fun w s₀ s₁ mg mb fa o pm cd doc a vs ns G Y ho hd hcd hmg hobj hints hlen hg => by
    have KX := hY w s₁.heap Y
    obtain ⟨fd, hb, hF⟩ := F w mg fa s₁.heap KX G.T.g hmg
    exact law_call2 KX G.T.g G.T.b G.T.builtins G.T.nolimit hg hobj hints (Nat.le_trans hlen hn2) hr hF hb (fun H hO hS => hsp w H a ns hlen hO hS)
/-! ### str of data -/
def rStrD (K : PySem.W.Frag) : List V → Hp → VK → Prop := fun xs H Q => ∃ (a : Addr) (d : PyData), xs = [.ref a] ∧ Dp K H (.ref a) d ∧ d.showable = true ∧ d.hasDict = false ∧ d.depth ≤ 40 ∧ d.shown.length ≤ sizeLine ∧ Q (.str d.shown) H
theorem cr_strD (K : PySem.W.Frag) {X : Cx} (hg : X.A.guards = some []) (hu : X.A.units + 64 < cLine) (hK : X.K = K := by rfl) : CallR X (.type "str") (rStrD K) := by
  subst hK
  intro pins s σ H xs us Q I r h
  obtain ⟨a, d, rfl, hd, h1, h2, h3, h4, q⟩ := h
  obtain ⟨u, rfl, ru⟩ := vals1 r
  have ru2 := ru
  obtain rfl : u = Value.ref a := ru
  obtain ⟨as, hr⟩ := Dp.reads I d _ _ hd ru2
  exact str_of_reads hr h1 (fun z => by rw [h2] at z; cases z) hg (by omega) (fun _ _ e => e) (fun h' u tk hk => ⟨.str d.shown, H, I.kept hk, ⟨u, rfl⟩, q⟩) h4
/-! ### how long a text is -/
structure Shw (d : PyData) (n : Nat) : Prop where
  a : d.showable = true
  b : d.hasDict = false
  c : d.shown.length ≤ n
theorem Shw.mono {d : PyData} {n m : Nat} (h : Shw d n) (l : n ≤ m) : Shw d m := ⟨h.a, h.b, Nat.le_trans h.c l⟩
theorem shw_all {n : Nat} : ∀ {ds : List PyData}, (∀ d ∈ ds, Shw d n) → PyData.showableAll ds = true ∧ PyData.hasDictAll ds = false ∧ ((PyData.shownAll ds).map (fun x => x.length)).sum ≤ n * ds.length ∧ (PyData.shownAll ds).length = ds.length
  | [], _ => ⟨by rw [PyData.showableAll], by rw [PyData.hasDictAll], by rw [PyData.shownAll]; simp, by rw [PyData.shownAll]; rfl⟩
  | d :: ds, h => by
    obtain ⟨h1, h2, h3, h4⟩ := shw_all (ds := ds) (n := n) fun x hx => h x (List.mem_cons_of_mem _ hx)
    have h0 := h d (List.mem_cons_self ..)
    refine ⟨?_, ?_, ?_, ?_⟩
    · rw [PyData.showableAll, h1, h0.a]; rfl
    · rw [PyData.hasDictAll, h2, h0.b]; rfl
    · rw [PyData.shownAll, List.map_cons, List.sum_cons, List.length_cons, Nat.mul_succ]
      have := h0.c
      omega
    · rw [PyData.shownAll, List.length_cons, List.length_cons, h4]
theorem shw_lst {ds : List PyData} {n : Nat} (h : ∀ d ∈ ds, Shw d n) : Shw (.list ds) (n * ds.length + 2 * ds.length + 3) := by
  obtain ⟨h1, h2, h3, h4⟩ := shw_all h
  refine ⟨by rw [PyData.showable]; exact h1, by rw [PyData.hasDict]; exact h2, ?_⟩
  rw [PyData.shown]
  have := listText_len_le (PyData.shownAll ds)
  rw [h4] at this
  omega
theorem shw_tup {ds : List PyData} {n : Nat} (h : ∀ d ∈ ds, Shw d n) : Shw (.tuple ds) (n * ds.length + 2 * ds.length + 3) := by
  obtain ⟨h1, h2, h3, h4⟩ := shw_all h
  refine ⟨by rw [PyData.showable]; exact h1, by rw [PyData.hasDict]; exact h2, ?_⟩
  rw [PyData.shown]
  have := tupleText_len_le (PyData.shownAll ds)
  rw [h4] at this
  omega
theorem shw_int {i : Int} (h : i.natAbs < 2 ^ 40) : Shw (.int i) 60 := by
  refine ⟨?_, by rw [PyData.hasDict], ?_⟩
  · rw [PyData.showable]
    refine decide_eq_true ?_
    rcases Nat.eq_zero_or_pos i.natAbs with z | z
    · rw [z]; decide
    · have := (Nat.log2_lt (by omega)).mpr h
      omega
  · rw [PyData.shown]
    have h2 := nat_repr_length_le (n := i.natAbs) (k := 40) (by decide) h
    rw [PySem.ofString_length]
    cases i with
    | ofNat m =>
      have e : toString (Int.ofNat m) = m.repr := rfl
      rw [e]
      have e : (Int.ofNat m).natAbs = m := rfl
      rw [e] at h2
      omega
    | negSucc m =>
      have e : toString (Int.negSucc m) = "-" ++ (m + 1).repr := rfl
      rw [e, String.length_append]
      have e : (Int.negSucc m).natAbs = m + 1 := rfl
      rw [e] at h2
      have : "-".length = 1 := rfl
      omega
theorem shw_eC {ns : List Int} (h : cIn (-1000000000) 1000000000 ns) (l : ns.length ≤ 10) : Shw (eC ns) 700 := by
  refine (shw_tup (n := 60) fun d hd => ?_).mono (by rw [List.length_map]; omega)
  obtain ⟨x, hx, rfl⟩ := List.mem_map.mp hd
  have := h x hx
  exact shw_int (by omega)
theorem shw_eI {ns : List Int} (h : cIn (-1000000000) 1000000000 ns) (l : ns.length ≤ 100) : Shw (eI ns) 7000 := by
  refine (shw_lst (n := 60) fun d hd => ?_).mono (by rw [List.length_map]; omega)
  obtain ⟨x, hx, rfl⟩ := List.mem_map.mp hd
  have := h x hx
  exact shw_int (by omega)
theorem shw_eP {cs : List (List Int)} (h : ∀ c ∈ cs, c.length ≤ 10 ∧ cIn (-1000000000) 1000000000 c) (l : cs.length ≤ 100) : Shw (eP cs) 71000 := by
  refine (shw_lst (n := 700) fun d hd => ?_).mono (by rw [List.length_map]; omega)
  obtain ⟨x, hx, rfl⟩ := List.mem_map.mp hd
  exact shw_eC (h x hx).2 (h x hx).1
theorem shw_eG {ps : List (List (List Int))} (h : ∀ p ∈ ps, p.length ≤ 100 ∧ ∀ c ∈ p, c.length ≤ 10 ∧ cIn (-1000000000) 1000000000 c) (l : ps.length ≤ 50) : Shw (eG ps) 4000000 := by
  refine (shw_lst (n := 71000) fun d hd => ?_).mono (by rw [List.length_map]; omega)
  obtain ⟨x, hx, rfl⟩ := List.mem_map.mp hd
  exact shw_eP (h x hx).2 (h x hx).1
end Z

set_option Elab.async false
set_option linter.all false
set_option maxRecDepth 100000
namespace Z
open PySem PySem.Spec PyProof.Rows L2
variable [TabCtx]
/-! ### a walk over a list or a tuple -/
def iSeq (K : PySem.W.Frag) (tl : TE) : TI := fun σ H R => iList K tl σ H R ∨ iTup K tl σ H R
theorem pi_seqK (K : PySem.W.Frag) {X : Cx} {tg l : Expr} {tl : TE} (hl : PE X l tl) (h : X.K = K := by rfl) : PI X tg l (iSeq K tl) := by
  subst h
  refine ⟨fun pins s σ H R I h => ?_⟩
  rcases h with h | h
  · exact (pi_list hl).run pins s σ H R I h
  · exact (pi_tup hl).run pins s σ H R I h
/-! ### texts of great numbers -/
theorem shw_intW {i : Int} (h : i.natAbs < 2 ^ 200) : Shw (.int i) 300 := by
  refine ⟨?_, by rw [PyData.hasDict], ?_⟩
  · rw [PyData.showable]
    refine decide_eq_true ?_
    rcases Nat.eq_zero_or_pos i.natAbs with z | z
    · rw [z]; decide
    · have := (Nat.log2_lt (by omega)).mpr h
      omega
  · rw [PyData.shown]
    have h2 := nat_repr_length_le (n := i.natAbs) (k := 200) (by decide) h
    rw [PySem.ofString_length]
    cases i with
    | ofNat m =>
      have e : toString (Int.ofNat m) = m.repr := rfl
      rw [e]
      have e : (Int.ofNat m).natAbs = m := rfl
      rw [e] at h2
      omega
    | negSucc m =>
      have e : toString (Int.negSucc m) = "-" ++ (m + 1).repr := rfl
      rw [e, String.length_append]
      have e : (Int.negSucc m).natAbs = m + 1 := rfl
      rw [e] at h2
      have : "-".length = 1 := rfl
      omega
theorem qp_int (n : Int) : qp (n : Rat) = (n, 1) := rfl
end Z

set_option Elab.async false
set_option linter.all false
set_option maxRecDepth 100000
namespace Z
open PySem PySem.Spec PyProof.Rows L2
variable [TabCtx]
/-! ### sorted ints -/
theorem cr_sortedIK (K : PySem.W.Frag) {X : Cx} (h : X.K = K := by rfl) : CallR X (.builtin "sorted") (rSortedI K) := h ▸ cr_sortedI
end Z

set_option Elab.async false
set_option linter.all false
set_option maxRecDepth 100000
namespace Z
open PySem PySem.Spec PyProof.Rows L2
variable [TabCtx]
/-! ### zip of three tuples -/
def It3 (K : PySem.W.Frag) (a b c : Addr) : It where
  go := fun i H => ∃ (xs ys ts : List V) (x y t : V), (SqT K H a xs ∧ SqT K H b ys ∧ SqT K H c ts) ∧ xs[i]? = some x ∧ ys[i]? = some y ∧ ts[i]? = some t
  yld := fun i H v H' => ∃ (T : Addr) (x y t : V), v = .ref T ∧ H T = none ∧ H' = upd H T (.tup [x, y, t]) ∧ (∀ l, SqT K H a l → l[i]? = some x) ∧ (∀ l, SqT K H b l → l[i]? = some y) ∧ ∀ l, SqT K H c l → l[i]? = some t
  stop := fun i H => ∃ xs ys ts : List V, (SqT K H a xs ∧ SqT K H b ys ∧ SqT K H c ts) ∧ i ≤ xs.length ∧ i ≤ ys.length ∧ i ≤ ts.length ∧ (i = xs.length ∨ i = ys.length ∨ i = ts.length)
def own3 (z TI TO i1 i2 i3 : Addr) : List Addr := [z, TI, TO, i1, i2, i3]
def at3 (a b c z TI TO i1 i2 i3 : Addr) (i : Nat) (h : Heap) : Prop :=
  IsZip h z TI TO .none ∧ IsTupOf3 h TI (.ref i1) (.ref i2) (.ref i3) ∧ (∃ x y t, IsTupOf3 h TO x y t) ∧ h.IsTupleIter i1 a i ∧ h.IsTupleIter i2 b i ∧ h.IsTupleIter i3 c i
theorem six {z TI TO i1 i2 i3 q : Addr} (h : q ∈ own3 z TI TO i1 i2 i3) : q = z ∨ q = TI ∨ q = TO ∨ q = i1 ∨ q = i2 ∨ q = i3 := by
  simpa [own3] using h
theorem ne_it {h : Heap} {t it l : Addr} {items : Array Value} {i : Nat} (p : h.IsTuple t items) (q : h.IsTupleIter it l i) : t ≠ it := fun e => by
  obtain ⟨o, ho, hcl, _⟩ := p
  obtain ⟨o', ho', hcl', _⟩ := q
  rw [e, ho'] at ho
  have eo := Option.some.inj ho
  rw [eo, hcl] at hcl'
  exact absurd (Value.type.inj hcl') (by decide)
set_option maxHeartbeats 1000000 in
theorem turn3 {P : Program} {w : World} {K : PySem.W.Frag} {elts : List Expr} {kk : Nat} {tpos : Pos} {a b c z TI TO i1 i2 i3 : Addr} (D : ZipSep3 z TI TO i1 i2 i3 [i1, a] [i2, b] [i3, c]) :
    Turn P w K (.Tuple elts kk tpos) (It3 K a b c) (own3 z TI TO i1 i2 i3) z (at3 a b c z TI TO i1 i2 i3) := by
  refine ⟨by simp [own3], fun i h st q hq => ?_, fun i h h' st k => ?_, ?_, ?_, fun A i s Q E st h => wpAny_pyIter_zip st.1 h⟩
  · obtain ⟨hz, hTI, ⟨x, y, t, hTO⟩, ⟨o1, e1, _, d1⟩, ⟨o2, e2, _, d2⟩, ⟨o3, e3, _, d3⟩⟩ := st
    rcases six hq with rfl | rfl | rfl | rfl | rfl | rfl
    · exact ⟨_, hz, fun v q => nomatch q⟩
    · exact ⟨_, hTI, fun v q => nomatch q⟩
    · exact ⟨_, hTO, fun v q => nomatch q⟩
    · exact ⟨o1, e1, fun v q => by rw [d1] at q; cases q⟩
    · exact ⟨o2, e2, fun v q => by rw [d2] at q; cases q⟩
    · exact ⟨o3, e3, fun v q => by rw [d3] at q; cases q⟩
  · obtain ⟨hz, hTI, ⟨x, y, t, hTO⟩, h1, h2, h3⟩ := st
    exact ⟨k z (by simp [own3]) _ hz, k TI (by simp [own3]) _ hTI, ⟨x, y, t, k TO (by simp [own3]) _ hTO⟩, h1.at fun o q => k i1 (by simp [own3]) o q, h2.at fun o q => k i2 (by simp [own3]) o q, h3.at fun o q => k i3 (by simp [own3]) o q⟩
  · intro X hP hw hK hc i pins s σ H E I hf st hg
    subst hP hw hK
    obtain ⟨hz, hTI, ⟨x0, y0, t0, hTO⟩, h1, h2, h3⟩ := st
    obtain ⟨xs, ys, ts, x, y, t, ⟨qx, qy, qt⟩, fx, fy, ft⟩ := hg
    obtain ⟨js1, r1, p1, _⟩ := I.tuple qx
    obtain ⟨js2, r2, p2, _⟩ := I.tuple qy
    obtain ⟨js3, r3, p3, _⟩ := I.tuple qt
    obtain ⟨u1, f1, m1⟩ := r1.get fx
    obtain ⟨u2, f2, m2⟩ := r2.get fy
    obtain ⟨u3, f3, m3⟩ := r3.get ft
    have lz : z < s.heap.objs.size := Heap.lt_size hz
    have hd := I.ok.hd hc
    have n1 : a ≠ i1 := ne_it p1 h1
    have n2 : b ≠ i2 := ne_it p2 h2
    have n3 : c ≠ i3 := ne_it p3 h3
    have k1 : i < js1.toArray.size := by have := (List.getElem?_eq_some_iff.mp f1).1; simpa using this
    have k2 : i < js2.toArray.size := by have := (List.getElem?_eq_some_iff.mp f2).1; simpa using this
    have k3 : i < js3.toArray.size := by have := (List.getElem?_eq_some_iff.mp f3).1; simpa using this
    refine wpAny_pyNext_zipD3_item D (Draws.tuple (A := X.A.in1) hd i1 a n1 js1.toArray) (Draws.tuple (A := X.A.in1) hd i2 b n2 js2.toArray) (Draws.tuple (A := X.A.in1) hd i3 c n3 js3.toArray) hz hTI hTO ⟨h1, p1⟩ ⟨h2, p2⟩ ⟨h3, p3⟩ k1 k2 k3 fun x1 x2 x3 h' tk e1 e2 e3 z' TO' st1 st2 st3 hT hsz hk => ?_
    have w1 : x1 = u1 := Option.some.inj (e1.symm.trans (by simpa using f1))
    have w2 : x2 = u2 := Option.some.inj (e2.symm.trans (by simpa using f2))
    have w3 : x3 = u3 := Option.some.inj (e3.symm.trans (by simpa using f3))
    subst w1 w2 w3
    refine ⟨_, rfl, wpAny_letOwnedTupleGo_zip (s := { s with heap := h', toks := tk }) z' fun h'' z'' sb => ?_⟩
    have up : ∀ q o, q ≠ z → h'.get? q = some o → h''.get? q = some o := fun q o n e => (sb.2 q n).trans e
    have hT2 := up _ _ (Nat.ne_of_gt lz) hT
    have fresh : H s.heap.objs.size = none := I.hok.fresh (Nat.le_refl _)
    have new : ObjOk X.prog X.w (upd H s.heap.objs.size (.tup [x, y, t])) h'' s.heap.objs.size (.tup [x, y, t]) :=
      ⟨by show 3 ≤ sizeLine; decide, [x1, x2, x3], .cons m1 (.cons m2 (.cons m3 .nil)), ⟨_, hT2, rfl, _, rfl⟩⟩
    have kp : ∀ q o, q ∉ own3 z TI TO i1 i2 i3 → s.heap.get? q = some o → h''.get? q = some o := fun q o nq e => by
      have nz : q ≠ z := fun y => nq (by simp [own3, y])
      refine up q o nz (hk q o nz (fun y => nq (by simp [own3, y])) (fun y => nq (by simp [own3, y])) (fun y => nq (by simp [own3, y])) (fun y => nq (by simp [own3, y])) e)
    have zi : ∀ {j : Addr} {fp : List Addr}, j ∈ fp → z ∉ fp → j ≠ z := fun hj hz e => hz (by rw [← e]; exact hj)
    refine ⟨.ref s.heap.objs.size, _, I.turnedNew (t' := tk) (ch := own3 z TI TO i1 i2 i3) kp hf (Nat.le_refl _) new, rfl, ⟨_, x, y, t, rfl, fresh, rfl, fun l hl => by rw [I.tuple_inj hl qx]; exact fx, fun l hl => by rw [I.tuple_inj hl qy]; exact fy, fun l hl => by rw [I.tuple_inj hl qt]; exact ft⟩, ⟨z'', ?_, ⟨x1, x2, x3, up _ _ D.TOz TO'⟩, ?_, ?_, ?_⟩, fun q hq => ?_⟩
    · exact up _ _ D.TIz (hk _ _ D.TIz D.TITO D.TIi1 D.TIi2 D.TIi3 hTI)
    · exact st1.1.at fun o e => up _ _ (zi D.mem1 D.zf1) e
    · exact st2.1.at fun o e => up _ _ (zi D.mem2 D.zf2) e
    · exact st3.1.at fun o e => up _ _ (zi D.mem3 D.zf3) e
    · have lq : q < s.heap.objs.size := by
        rcases six hq with rfl | rfl | rfl | rfl | rfl | rfl
        · exact lz
        · exact Heap.lt_size hTI
        · exact Heap.lt_size hTO
        · obtain ⟨_, e, _⟩ := h1; exact Heap.lt_size e
        · obtain ⟨_, e, _⟩ := h2; exact Heap.lt_size e
        · obtain ⟨_, e, _⟩ := h3; exact Heap.lt_size e
      rw [upd_ne (Nat.ne_of_lt lq)]
      exact (hf q hq).1
  · intro X hP hw hK hc i pins s σ H E I hf st hg
    subst hP hw hK
    obtain ⟨hz, hTI, ⟨x0, y0, t0, hTO⟩, h1, h2, h3⟩ := st
    obtain ⟨xs, ys, ts, ⟨qx, qy, qt⟩, b1, b2, b3, hend⟩ := hg
    obtain ⟨js1, r1, p1, _⟩ := I.tuple qx
    obtain ⟨js2, r2, p2, _⟩ := I.tuple qy
    obtain ⟨js3, r3, p3, _⟩ := I.tuple qt
    have hd := I.ok.hd hc
    have l1 := r1.length
    have l2 := r2.length
    have l3 := r3.length
    have n1 : a ≠ i1 := ne_it p1 h1
    have n2 : b ≠ i2 := ne_it p2 h2
    have n3 : c ≠ i3 := ne_it p3 h3
    refine wpAny_pyNext_zipD3_end D (Draws.tuple (A := X.A.in1) hd i1 a n1 js1.toArray) (Draws.tuple (A := X.A.in1) hd i2 b n2 js2.toArray) (Draws.tuple (A := X.A.in1) hd i3 c n3 js3.toArray) hz hTI hTO ⟨h1, p1⟩ ⟨h2, p2⟩ ⟨h3, p3⟩ (by simp; omega) (by simp; omega) (by simp; omega) (by simp; omega) fun h' tk hk => ?_
    exact ⟨rfl, I.turnedL (t' := tk) (ch := own3 z TI TO i1 i2 i3) (fun q o nq e => hk q o (fun y => nq (by simp [own3, y])) (fun y => nq (by simp [own3, y])) (fun y => nq (by simp [own3, y])) (fun y => nq (by simp [own3, y])) (fun y => nq (by simp [own3, y])) e) hf⟩
set_option maxHeartbeats 400000
def iZip3 (K : PySem.W.Frag) (ta : TA) : TI := fun σ H R => ta σ H fun vs H1 => ∃ a b c xs ys ts, vs = [.ref a, .ref b, .ref c] ∧ SqT K H1 a xs ∧ SqT K H1 b ys ∧ SqT K H1 c ts ∧ R (It3 K a b c) H1
theorem own_le {N y : Nat} (hy : y ∈ own3 (N + 5) (N + 3) (N + 4) N (N + 1) (N + 2)) : N ≤ y := by
  rcases six hy with z | z | z | z | z | z <;> rw [z]
  · exact Nat.le_add_right _ _
  · exact Nat.le_add_right _ _
  · exact Nat.le_add_right _ _
  · exact Nat.le_refl _
  · exact Nat.le_add_right _ _
  · exact Nat.le_add_right _ _
theorem zip3_end {X : Cx} {pins : List (Addr × Obj)} {σ : L2.St} {H1 : Hp} {s1 : Shared} {R : It → Hp → Prop} {a b c : Addr} {xs ys ts : List V} {elts : List Expr} {kk : Nat} {tpos : Pos} (I1 : Inv X pins σ H1 s1) (qx : SqT X.K H1 a xs) (qy : SqT X.K H1 b ys) (qt : SqT X.K H1 c ts) (q : R (It3 X.K a b c) H1) :
    wpAny (model X.prog X.w) X.A (call (.type "zip") [.ref a, .ref b, .ref c]) (fun v s2 => wpAny (model X.prog X.w) X.A (pyIter v) (PIE X pins σ (.Tuple elts kk tpos) R) X.xe s2) X.xe s1 := by
  obtain ⟨js1, m1, p1, _⟩ := I1.tuple qx
  obtain ⟨js2, m2, p2, _⟩ := I1.tuple qy
  obtain ⟨js3, m3, p3, _⟩ := I1.tuple qt
  have la : a < s1.heap.objs.size := by obtain ⟨_, o, _⟩ := p1; exact Heap.lt_size o
  have lb : b < s1.heap.objs.size := by obtain ⟨_, o, _⟩ := p2; exact Heap.lt_size o
  have lc : c < s1.heap.objs.size := by obtain ⟨_, o, _⟩ := p3; exact Heap.lt_size o
  refine zip_begins3 (begins_tuple a js1.toArray) (begins_tuple b js2.toArray) (begins_tuple c js3.toArray) p1 p2 p3 fun h' hz hTI hTO g1 g2 g3 hsz hk => wpAny_pyIter_zip hz ?_
  have one : ∀ {x : Addr}, x < s1.heap.objs.size → ∀ y ∈ [x], y < s1.heap.objs.size := fun hx y hy => by rw [List.mem_singleton.mp hy]; exact hx
  have I2 : Inv X pins σ H1 { s1 with heap := h' } := I1.kept (t' := s1.toks) hk
  have fr : ∀ y, s1.heap.objs.size ≤ y → FpOk X pins H1 y := fun y hle => I1.fpOk hle (I1.hok.fresh hle)
  have sp := zip_sep3 (one la) (one lb) (one lc)
  generalize s1.heap.objs.size = N at *
  exact ⟨N + 5, own3 (N + 5) (N + 3) (N + 4) N (N + 1) (N + 2), at3 a b c (N + 5) (N + 3) (N + 4) N (N + 1) (N + 2), It3 X.K a b c, H1, rfl, I2, turn3 sp, ⟨hz, hTI, ⟨_, _, _, hTO⟩, ⟨_, g1, rfl, rfl⟩, ⟨_, g2, rfl, rfl⟩, ⟨_, g3, rfl, rfl⟩⟩, fun y hy => fr y (own_le hy), q⟩
theorem pi_zip3 (K : PySem.W.Frag) {X : Cx} {e e2 e3 : Expr} {ta : TA} {p pos tpos : Pos} {elts : List Expr} {kk : Nat} (hg : Gl X "zip") (hm : X.mg "zip" = none) (ha : PA X [e, e2, e3] ta)
    (hs : starEach [e, e2, e3] X.env = (false, eval e X.env) :: starEach [e2, e3] X.env := by rfl) (hpl : (backTo pos (starEach [e2, e3] X.env)).any (·.1) = false := by rfl) (hK : X.K = K := by rfl) :
    PI X (.Tuple elts kk tpos) (.Call (.Name "zip" p) [e, e2, e3] [] pos) (iZip3 K ta) := by
  subst hK
  refine ⟨fun pins s σ H R I h => ?_⟩
  refine Call_ (ld_blt I hg hm PyProof.Rows.boot_zip (PyProof.Rows.callWith_type1 (thn (ha.run pos pins s σ H _ I h) fun us s1 ⟨vs, H1, I1, r1, q1⟩ => ?_) hs hpl))
  obtain ⟨a, b, c, xs, ys, ts, rfl, qx, qy, qt, q⟩ := q1
  obtain ⟨u1, us, rfl, ra, r1⟩ : ∃ u1 vs', us = u1 :: vs' ∧ RelV (.ref a) u1 ∧ Vals [.ref b, .ref c] vs' := by
    cases r1 with
    | cons x y => exact ⟨_, _, rfl, x, y⟩
  obtain ⟨u2, us, rfl, rb, r1⟩ : ∃ u1 vs', us = u1 :: vs' ∧ RelV (.ref b) u1 ∧ Vals [.ref c] vs' := by
    cases r1 with
    | cons x y => exact ⟨_, _, rfl, x, y⟩
  obtain ⟨u3, rfl, rc⟩ := vals1 r1
  cases (show u1 = Value.ref a from ra)
  cases (show u2 = Value.ref b from rb)
  cases (show u3 = Value.ref c from rc)
  exact zip3_end I1 qx qy qt q
def YTri (xs ys ts : List V) : Nat → Hp → V → Hp → Prop := fun i H v H' => ∃ T x y t, v = .ref T ∧ H T = none ∧ H' = upd H T (.tup [x, y, t]) ∧ xs[i]? = some x ∧ ys[i]? = some y ∧ ts[i]? = some t
theorem walk_zip3 {K : PySem.W.Frag} {a b c : Addr} {xs ys ts : List V} (h1 : ys.length = xs.length) (h2 : ts.length = xs.length) : Walk (It3 K a b c) xs.length (fun H => SqT K H a xs ∧ SqT K H b ys ∧ SqT K H c ts) (YTri xs ys ts) := by
  refine ⟨fun i H hi q => ⟨xs, ys, ts, xs[i], ys[i]'(by omega), ts[i]'(by omega), q, by simp [hi], by simp, by simp⟩, fun H q => ⟨xs, ys, ts, q, by omega, by omega, by omega, .inl rfl⟩, fun i H v H' _ q y => ?_⟩
  obtain ⟨T, x, z, t, e1, e2, e3, e4, e5, e6⟩ := y
  exact ⟨T, x, z, t, e1, e2, e3, e4 xs q.1, e5 ys q.2.1, e6 ts q.2.2⟩
end Z

set_option Elab.async false
set_option linter.all false
set_option maxRecDepth 100000
set_option maxHeartbeats 400000
namespace Z
open PySem PySem.Spec PyProof.Rows L2
variable [TabCtx]
/-! ### x < y, x and y data alike -/
def rLtD (K : PySem.W.Frag) : R2 := fun x y H Q => ∃ da db, Dp K H x da ∧ Dp K H y db ∧ PySem.W.alike da db = true ∧ da ≠ .none ∧ da.depth ≤ 50 ∧ Q (.bl (PySem.W.dataLt da db)) H
theorem op_ltD (K : PySem.W.Frag) {X : Cx} (hu : X.A.units + 64 < cLine) (hK : X.K = K := by rfl) : OpR X (compareOp .Lt) (rLtD K) := by
  subst hK
  intro pins s σ H x y v u Q I rx ry h
  obtain ⟨d, e, hd, he, ha, hn, hdp, q⟩ := h
  obtain ⟨as, r1⟩ := Dp.reads I d x v hd rx
  obtain ⟨bs, r2⟩ := Dp.reads I e y u he ry
  exact PySem.W.lt_data r1 r2 ha hn (by have := Nat.min_le_left d.depth e.depth; omega) ⟨.bl _, H, I, rfl, q⟩
theorem lt_eI (xs ys : List Int) : PySem.W.dataLt (eI xs) (eI ys) = decide (xs < ys) := by
  unfold eI
  rw [PySem.W.dataLt_list]
  exact PySem.W.dataLt_ints xs ys
theorem alike_eI (xs ys : List Int) : PySem.W.alike (eI xs) (eI ys) = true := by
  unfold eI
  simp [PySem.W.alike, PySem.W.alike_ints]
end Z

set_option Elab.async false
set_option linter.all false
set_option maxRecDepth 100000
set_option maxHeartbeats 400000
namespace Z
open PySem PySem.Spec PyProof.Rows L2 L2.DX
variable [TabCtx]
theorem op_inDK (K : PySem.W.Frag) {X : Cx} (hu : X.A.units + 65 < cLine) (h : X.K = K := by rfl) : OpR X (compareOp .In) (rInD K) := h ▸ op_inD hu
theorem hu65 {k : Nat} {A : Around} (h : Room k A) : A.units + 65 < cLine := by
  have := h.un
  omega
/-! ### dicts by colours -/
theorem inl_inj {a b : List Int} (h : a.map (Sum.inl (β := Str)) = b.map Sum.inl) : a = b := by
  refine (List.map_inj_right (fun x y e => ?_)).mp h
  exact Sum.inl.inj e
theorem put_keys (ks : List (List Int × Int)) (c : List Int) (n : Int) : ∃ ks' : List (List Int × Int), putK (ks.map entI) (c.map Sum.inl) (.int n) = ks'.map entI ∧ (∀ e ∈ ks', e.1 = c ∨ ∃ f ∈ ks, f.1 = e.1) ∧ (∀ f ∈ ks, ∃ e ∈ ks', e.1 = f.1) ∧ (∃ e ∈ ks', e.1 = c) ∧ ks'.length ≤ ks.length + 1 := by
  unfold putK
  by_cases b : ((ks.map entI).any fun kv => decide (kv.1 = c.map Sum.inl)) = true
  · rw [if_pos b]
    refine ⟨ks.map fun e => if e.1.map (Sum.inl (β := Str)) = c.map Sum.inl then (e.1, n) else e, ?_, fun e he => ?_, fun f hf => ?_, ?_, by simp⟩
    · rw [List.map_map, List.map_map]
      refine List.map_congr_left fun e _ => ?_
      show (if (entI e).1 = c.map Sum.inl then ((entI e).1, V.int n) else entI e) = entI (if e.1.map Sum.inl = c.map Sum.inl then (e.1, n) else e)
      by_cases x : e.1.map (Sum.inl (β := Str)) = c.map Sum.inl
      · rw [if_pos (show (entI e).1 = _ from x), if_pos x]
        rfl
      · rw [if_neg (show ¬ (entI e).1 = _ from x), if_neg x]
    · obtain ⟨f, hf, rfl⟩ := List.mem_map.mp he
      right
      refine ⟨f, hf, ?_⟩
      split <;> rfl
    · refine ⟨_, List.mem_map.mpr ⟨f, hf, rfl⟩, ?_⟩
      split <;> rfl
    · obtain ⟨kv, hkv, hd⟩ := List.any_eq_true.mp b
      obtain ⟨f, hf, rfl⟩ := List.mem_map.mp hkv
      have hd' : f.1.map (Sum.inl (β := Str)) = c.map Sum.inl := of_decide_eq_true hd
      refine ⟨_, List.mem_map.mpr ⟨f, hf, rfl⟩, ?_⟩
      rw [if_pos hd']
      exact inl_inj hd'
  · rw [if_neg b]
    refine ⟨ks ++ [(c, n)], by rw [List.map_append]; rfl, fun e he => ?_, fun f hf => ⟨f, List.mem_append_left _ hf, rfl⟩, ⟨(c, n), by simp, rfl⟩, by simp⟩
    rcases List.mem_append.mp he with x | x
    · exact .inr ⟨e, x, rfl⟩
    · rw [List.mem_singleton.mp x]
      exact .inl rfl
theorem val_int (ks : List (List Int × Int)) (k : List L2.Key) : valV (ks.map entI) k = none ∨ ∃ n : Int, valV (ks.map entI) k = some (.int n) := by
  unfold valV
  cases h : (ks.map entI).find? fun kv => decide (kv.1 = k) with
  | none => exact .inl rfl
  | some kv =>
    obtain ⟨f, _, rfl⟩ := List.mem_map.mp (List.mem_of_find?_eq_some h)
    exact .inr ⟨f.2, rfl⟩
theorem val_at {ks : List (List Int × Int)} {e : List Int × Int} (h : e ∈ ks) : ∃ n : Int, valV (ks.map entI) (e.1.map Sum.inl) = some (.int n) := by
  rcases val_int ks (e.1.map Sum.inl) with z | z
  · exfalso
    unfold valV at z
    rw [Option.map_eq_none_iff, List.find?_eq_none] at z
    exact z (entI e) (List.mem_map.mpr ⟨e, h, rfl⟩) (by simp [entI])
  · exact z
/-- one more of a colour -/
def wS (φ : List Int → Int) (ks : List (List Int × Int)) : Int := (ks.map fun e => e.2 * φ e.1).sum
def gV (ks : List (List Int × Int)) (c : List Int) : V := (valV (ks.map entI) (c.map Sum.inl)).getD (.int 0)
theorem val_cons (e : List Int × Int) (ks : List (List Int × Int)) (c : List Int) : valV ((e :: ks).map entI) (c.map Sum.inl) = if e.1 = c then some (.int e.2) else valV (ks.map entI) (c.map Sum.inl) := by
  unfold valV
  rw [List.map_cons, List.find?_cons]
  by_cases h : e.1 = c
  · rw [if_pos h]
    have : decide ((entI e).1 = c.map Sum.inl) = true := decide_eq_true (by rw [← h]; rfl)
    rw [this]
    rfl
  · rw [if_neg h]
    have : decide ((entI e).1 = c.map Sum.inl) = false := decide_eq_false (fun z => h (inl_inj z))
    rw [this]
theorem val_none {ks : List (List Int × Int)} {c : List Int} (h : c ∉ ks.map Prod.fst) : valV (ks.map entI) (c.map Sum.inl) = none := by
  induction ks with
  | nil => rfl
  | cons e ks ih =>
    rw [val_cons, if_neg (fun z => h (by rw [← z]; simp)), ih (fun z => h (by rw [List.map_cons]; exact List.mem_cons_of_mem _ z))]
theorem val_some {ks : List (List Int × Int)} (nd : (ks.map Prod.fst).Nodup) {e : List Int × Int} (h : e ∈ ks) : valV (ks.map entI) (e.1.map Sum.inl) = some (.int e.2) := by
  induction ks with
  | nil => cases h
  | cons f ks ih =>
    rw [List.map_cons, List.nodup_cons] at nd
    rw [val_cons]
    rcases List.mem_cons.mp h with z | z
    · rw [z, if_pos rfl]
    · rw [if_neg (fun y => nd.1 (by rw [y]; exact List.mem_map.mpr ⟨e, z, rfl⟩)), ih nd.2 z]
def upK (c : List Int) (n : Int) (e : List Int × Int) : List Int × Int := if e.1 = c then (e.1, n) else e
theorem up_fst (c : List Int) (n : Int) (ks : List (List Int × Int)) : (ks.map (upK c n)).map Prod.fst = ks.map Prod.fst := by
  rw [List.map_map]
  refine List.map_congr_left fun e _ => ?_
  show (upK c n e).1 = e.1
  unfold upK
  split <;> rfl
theorem up_sum (φ : List Int → Int) {c : List Int} {n : Int} : ∀ {ks : List (List Int × Int)}, (ks.map Prod.fst).Nodup → ∀ {m : Int}, (c, m) ∈ ks → wS φ (ks.map (upK c n)) = wS φ ks + (n - m) * φ c
  | [], _, _, h => nomatch h
  | e :: ks, nd, m, h => by
    rw [List.map_cons, List.nodup_cons] at nd
    have same : c ∉ ks.map Prod.fst → ks.map (upK c n) = ks := fun hc => by
      refine (List.map_congr_left fun f hf => ?_).trans (List.map_id _)
      unfold upK
      rw [if_neg (fun z => hc (by rw [← z]; exact List.mem_map.mpr ⟨f, hf, rfl⟩))]
      rfl
    unfold wS at *
    rcases List.mem_cons.mp h with z | z
    · have hc : c ∉ ks.map Prod.fst := by have := nd.1; rw [← z] at this; exact this
      rw [List.map_cons, same hc, List.map_cons, List.sum_cons, List.map_cons, List.sum_cons, ← z]
      unfold upK
      rw [if_pos rfl]
      show n * φ c + _ = m * φ c + _ + (n - m) * φ c
      rw [Int.sub_mul]
      omega
    · have ih := up_sum φ (c := c) (n := n) nd.2 z
      unfold wS at ih
      have ne : e.1 ≠ c := fun y => nd.1 (by rw [y]; exact List.mem_map.mpr ⟨_, z, rfl⟩)
      rw [List.map_cons, List.map_cons, List.sum_cons, ih, List.map_cons, List.sum_cons]
      have : upK c n e = e := by unfold upK; rw [if_neg ne]
      rw [this]
      omega
/-- what the dict holds behind one more of c -/
theorem put_count (ks : List (List Int × Int)) (c : List Int) (nd : (ks.map Prod.fst).Nodup) (z : Int) (hz : gV ks c = .int z) : ∃ ks' : List (List Int × Int), putK (ks.map entI) (c.map Sum.inl) (.int (z + 1)) = ks'.map entI ∧ (ks'.map Prod.fst).Nodup ∧ (∀ φ, wS φ ks' = wS φ ks + φ c) ∧ (∀ e ∈ ks', e = (c, z + 1) ∨ e ∈ ks) ∧ (∀ f ∈ ks.map Prod.fst, f ∈ ks'.map Prod.fst) ∧ c ∈ ks'.map Prod.fst ∧ ks'.length ≤ ks.length + 1 := by
  by_cases hc : c ∈ ks.map Prod.fst
  · obtain ⟨e, he, rfl⟩ := List.mem_map.mp hc
    have hv := val_some nd he
    have ez : e.2 = z := by
      unfold gV at hz
      rw [hv] at hz
      exact V.int.inj hz
    have any : ((ks.map entI).any fun kv => decide (kv.1 = e.1.map Sum.inl)) = true := List.any_eq_true.mpr ⟨entI e, List.mem_map.mpr ⟨e, he, rfl⟩, decide_eq_true rfl⟩
    refine ⟨ks.map (upK e.1 (z + 1)), ?_, by rw [up_fst]; exact nd, fun φ => ?_, fun f hf => ?_, fun f hf => by rw [up_fst]; exact hf, by rw [up_fst]; exact hc, by simp⟩
    · unfold putK
      rw [if_pos any, List.map_map, List.map_map]
      refine List.map_congr_left fun f _ => ?_
      show (if (entI f).1 = e.1.map Sum.inl then ((entI f).1, V.int (z + 1)) else entI f) = entI (upK e.1 (z + 1) f)
      unfold upK
      by_cases x : f.1 = e.1
      · rw [if_pos x, if_pos (show (entI f).1 = _ by rw [← x]; rfl)]
        rfl
      · rw [if_neg x, if_neg (show ¬ (entI f).1 = _ from fun y => x (inl_inj y))]
    · rw [up_sum φ nd (m := z) (by rw [← ez]; exact he)]
      have : z + 1 - z = 1 := by omega
      rw [this, Int.one_mul]
    · obtain ⟨g, hg, rfl⟩ := List.mem_map.mp hf
      unfold upK
      split
      · rename_i h
        exact .inl (by rw [h])
      · exact .inr hg
  · have hv := val_none hc
    have ez : z = 0 := by
      unfold gV at hz
      rw [hv] at hz
      exact (V.int.inj hz).symm
    have any : ¬ ((ks.map entI).any fun kv => decide (kv.1 = c.map Sum.inl)) = true := fun h => by
      obtain ⟨kv, hkv, hd⟩ := List.any_eq_true.mp h
      obtain ⟨f, hf, rfl⟩ := List.mem_map.mp hkv
      exact hc (by rw [← inl_inj (of_decide_eq_true hd)]; exact List.mem_map.mpr ⟨f, hf, rfl⟩)
    refine ⟨ks ++ [(c, z + 1)], ?_, ?_, fun φ => ?_, fun f hf => ?_, fun f hf => ?_, by simp, by simp⟩
    · unfold putK
      rw [if_neg any, List.map_append]
      rfl
    · rw [List.map_append, List.nodup_append]
      refine ⟨nd, by simp, fun a ha b hb => ?_⟩
      simp at hb
      rw [hb]
      exact fun y => hc (by rw [← y]; exact ha)
    · unfold wS
      rw [List.map_append, List.sum_append]
      simp [ez]
    · rcases List.mem_append.mp hf with x | x
      · exact .inr x
      · exact .inl (List.mem_singleton.mp x)
    · rw [List.map_append]
      exact List.mem_append_left _ hf
end Z

set_option Elab.async false
set_option linter.all false
set_option maxRecDepth 100000
set_option maxHeartbeats 400000
namespace Z
open PySem PySem.Spec PyProof.Rows L2
variable [TabCtx]
/-! ### x <= y, x > y, x and y data alike -/
def rLeD (K : PySem.W.Frag) : R2 := fun x y H Q => ∃ da db, Dp K H x da ∧ Dp K H y db ∧ PySem.W.alike da db = true ∧ da ≠ .none ∧ da.depth ≤ 50 ∧ Q (.bl (!PySem.W.dataLt db da)) H
def rGtD (K : PySem.W.Frag) : R2 := fun x y H Q => ∃ da db, Dp K H x da ∧ Dp K H y db ∧ PySem.W.alike da db = true ∧ da ≠ .none ∧ da.depth ≤ 50 ∧ Q (.bl (PySem.W.dataLt db da)) H
theorem op_leD (K : PySem.W.Frag) {X : Cx} (hu : X.A.units + 64 < cLine) (hK : X.K = K := by rfl) : OpR X (compareOp .LtE) (rLeD K) := by
  subst hK
  intro pins s σ H x y v u Q I rx ry h
  obtain ⟨d, e, hd, he, ha, hn, hdp, q⟩ := h
  obtain ⟨as, r1⟩ := Dp.reads I d x v hd rx
  obtain ⟨bs, r2⟩ := Dp.reads I e y u he ry
  exact PySem.W.le_data r1 r2 ha hn (by have := Nat.min_le_left d.depth e.depth; omega) ⟨.bl _, H, I, rfl, q⟩
theorem op_gtD (K : PySem.W.Frag) {X : Cx} (hu : X.A.units + 64 < cLine) (hK : X.K = K := by rfl) : OpR X (compareOp .Gt) (rGtD K) := by
  subst hK
  intro pins s σ H x y v u Q I rx ry h
  obtain ⟨d, e, hd, he, ha, hn, hdp, q⟩ := h
  obtain ⟨as, r1⟩ := Dp.reads I d x v hd rx
  obtain ⟨bs, r2⟩ := Dp.reads I e y u he ry
  exact PySem.W.gt_data r1 r2 ha hn (by have := Nat.min_le_left d.depth e.depth; omega) ⟨.bl _, H, I, rfl, q⟩
theorem op_notInDK (K : PySem.W.Frag) {X : Cx} (hu : X.A.units + 65 < cLine) (h : X.K = K := by rfl) : OpR X (compareOp .NotIn) (rNotInD K) := h ▸ op_notInD hu
theorem enc_ne (p : Int × Int) : enc p ≠ .none := fun h => by
  unfold enc eC at h
  cases h
end Z

set_option Elab.async false
set_option linter.all false
set_option maxRecDepth 100000
set_option maxHeartbeats 400000
namespace Z
open PySem PySem.Spec PyProof.Rows L2
variable [TabCtx]
/-! ### data alone: what stands in a slot (no: unknown; d: data; o: a list of one's own, with what is in it; l: the list that is drawn from) -/
inductive Sl | no | d (x : PyData) | o (xs : List PyData) | l | v (x : V) | k (tp : Bool) (kvs : List (PyData × PyData))
/-- a dict of one's own, what its keys and values are as data -/
def kD : Key → PyData
  | .inl i => .int i
  | .inr x => .str x
def tD (ks : List Key) : PyData := .tuple (ks.map kD)
def DicAt (B : List Addr) (H : Hp) (a : Addr) : Bool → List (PyData × PyData) → Prop
  | true, kvs => ∃ kv : List (List Key × V), H a = some (.dT kv) ∧ kvs.map (·.1) = kv.map (fun p => tD p.1) ∧ DtA B H (kv.map (·.2)) (kvs.map (·.2))
  | false, kvs => ∃ kv : List (Key × V), H a = some (.dK kv) ∧ kvs.map (·.1) = kv.map (fun p => kD p.1) ∧ DtA B H (kv.map (·.2)) (kvs.map (·.2))
theorem DicAt.to {B C : List Addr} {H H' : Hp} {a : Addr} {tp : Bool} {kvs : List (PyData × PyData)} (h : DicAt B H a tp kvs) (e : H' a = H a) (f : ∀ vs ds, DtA B H vs ds → DtA C H' vs ds) : DicAt C H' a tp kvs := by
  cases tp with
  | true =>
    obtain ⟨kv, h1, h2, h3⟩ := h
    exact ⟨kv, by rw [e]; exact h1, h2, f _ _ h3⟩
  | false =>
    obtain ⟨kv, h1, h2, h3⟩ := h
    exact ⟨kv, by rw [e]; exact h1, h2, f _ _ h3⟩
theorem DicAt.at_ {B : List Addr} {H : Hp} {a : Addr} {tp : Bool} {kvs : List (PyData × PyData)} (h : DicAt B H a tp kvs) : ∃ o, H a = some o ∧ notTab o ∧ (∀ vs, o ≠ .lst vs) ∧ NoTup o := by
  cases tp with
  | true =>
    obtain ⟨kv, h1, h2, h3⟩ := h
    exact ⟨_, h1, trivial, (fun _ z => nomatch z), fun _ z => nomatch z⟩
  | false =>
    obtain ⟨kv, h1, h2, h3⟩ := h
    exact ⟨_, h1, trivial, (fun _ z => nomatch z), fun _ z => nomatch z⟩
theorem DicAt.kg {B C : List Addr} {H H' : Hp} {a : Addr} {tp : Bool} {kvs : List (PyData × PyData)} (h : DicAt B H a tp kvs) (g : Go C H H') (n : a ∉ C) : H' a = H a := by
  obtain ⟨o, e, nt, _⟩ := h.at_
  rw [e]
  exact g.k0 a o n (fun ps z => by rw [z] at nt; exact nt) e
def Lfs (L : List Addr) (H : Hp) (n : Nat) : Prop := (∀ a ∈ L, Lf a H n) ∧ LamX.Tabs TabCtx.T H
structure Rel (L B O : List Addr) (H : Hp) (σ : L2.St) (δ : List Sl) (n : Nat) : Prop where
  len : σ.length = δ.length
  dd : ∀ (i : Nat) x, δ[i]? = some (Sl.d x) → ∃ v, σ[i]? = some (some v) ∧ Dt B H v x
  oo : ∀ (i : Nat) xs, δ[i]? = some (Sl.o xs) → ∃ a vs, σ[i]? = some (some (.ref a)) ∧ a ∈ O ∧ H a = some (.lst vs) ∧ DtA B H vs xs
  uq : ∀ (i j : Nat) xs ys a, δ[i]? = some (Sl.o xs) → δ[j]? = some (Sl.o ys) → σ[i]? = some (some (.ref a)) → σ[j]? = some (some (.ref a)) → i = j
  kk : ∀ (i : Nat) tp ks, δ[i]? = some (Sl.k tp ks) → ∃ a, σ[i]? = some (some (.ref a)) ∧ a ∈ O ∧ DicAt B H a tp ks
  uk : ∀ (i j : Nat) t t' xs ys a, δ[i]? = some (Sl.k t xs) → δ[j]? = some (Sl.k t' ys) → σ[i]? = some (some (.ref a)) → σ[j]? = some (some (.ref a)) → i = j
  ll : ∀ (i : Nat), δ[i]? = some Sl.l → ∃ a, a ∈ L ∧ σ[i]? = some (some (.ref a))
  vv : ∀ (i : Nat) v, δ[i]? = some (Sl.v v) → σ[i]? = some (some v)
  bk : Bk B H
  ob : ∀ a ∈ O, a ∈ B ∧ a ∉ L
  lb : ∀ a ∈ L, a ∈ B
  lf : Lfs L H n
theorem getset {α : Type} {xs : List α} {i j : Nat} {s t : α} (h : (xs.set i s)[j]? = some t) : (j = i ∧ t = s ∧ i < xs.length) ∨ (j ≠ i ∧ xs[j]? = some t) := by
  by_cases e : i = j
  · subst e
    by_cases hi : i < xs.length
    · rw [List.getElem?_set_self hi] at h
      exact .inl ⟨rfl, (Option.some.inj h).symm, hi⟩
    · rw [List.getElem?_eq_none (by simpa using hi)] at h
      cases h
  · rw [List.getElem?_set_ne e] at h
    exact .inr ⟨fun z => e z.symm, h⟩
section
variable {L B O : List Addr} {H H' : Hp} {σ : L2.St} {δ : List Sl} {n m i : Nat} {v : V} {x : PyData} {xs : List PyData} {a : Addr} {vs : List V}
theorem Tabs.go {B : List Addr} (t : LamX.Tabs TabCtx.T H) (g : Go B H H') : LamX.Tabs TabCtx.T H' := g.t t
theorem Lfs.same (h : Lfs L H n) (s : Same H H') : Lfs L H' n := ⟨fun a ha => (h.1 a ha).same s, h.2.ext s⟩
theorem Lfs.mono (h : Lfs L H n) (l : n ≤ m) : Lfs L H m := ⟨fun a ha => (h.1 a ha).mono l, h.2⟩
theorem Lfs.new {p : Addr} {o : HO} (h : Lfs L H n) (e : H p = none) : Lfs L (upd H p o) n := h.same (sm_new e)
theorem Lfs.upL {p : Addr} {o : HO} (h : Lfs L H n) (e : p ∉ L) (hl : ∃ u, H p = some u ∧ notTab u := by exact ⟨_, ‹_›, by exact trivial⟩) (ho : NoTup o := by intro _ z; cases z) : Lfs L (upd H p o) n := ⟨fun a ha => (h.1 a ha).up fun q => e (by rw [q]; exact ha), Tabs.go (B := [p]) h.2 (Go.refl.at (List.mem_singleton.mpr rfl) hl ho)⟩
theorem Rel.go (h : Rel L B O H σ δ n) (g : Go L H H') (f : Lfs L H' m) : Rel L B O H' σ δ m where
  len := h.len
  dd := fun i x e => by
    obtain ⟨v, e1, dv⟩ := h.dd i x e
    exact ⟨v, e1, dv.g (g.w h.lb)⟩
  oo := fun i xs e => by
    obtain ⟨a, vs, e1, ha, hs, hA⟩ := h.oo i xs e
    exact ⟨a, vs, e1, ha, g.k a _ (h.ob a ha).2 hs, hA.g (g.w h.lb)⟩
  uq := h.uq
  kk := fun i tp ks e => by
    obtain ⟨a, e1, ha, hd⟩ := h.kk i tp ks e
    exact ⟨a, e1, ha, hd.to (hd.kg g (h.ob a ha).2) fun _ _ hA => hA.g (g.w h.lb)⟩
  uk := h.uk
  ll := h.ll
  vv := h.vv
  bk := h.bk.go g
  ob := h.ob
  lb := h.lb
  lf := f
theorem Rel.s (h : Rel L B O H σ δ n) (s : Same H H') : Rel L B O H' σ δ n := h.go (Go.of s) (h.lf.same s)
theorem Rel.set_no (h : Rel L B O H σ δ n) (i : Nat) (y : Option V) : Rel L B O H (σ.set i y) (δ.set i .no) n where
  len := by rw [List.length_set, List.length_set]; exact h.len
  dd := fun j x e => by
    rcases getset e with ⟨_, z, _⟩ | ⟨z, e⟩
    · cases z
    · rw [List.getElem?_set_ne (Ne.symm z)]; exact h.dd j x e
  oo := fun j x e => by
    rcases getset e with ⟨_, z, _⟩ | ⟨z, e⟩
    · cases z
    · rw [List.getElem?_set_ne (Ne.symm z)]; exact h.oo j x e
  uq := fun j k xs ys a e1 e2 => by
    rcases getset e1 with ⟨_, z, _⟩ | ⟨z1, e1⟩
    · cases z
    rcases getset e2 with ⟨_, z, _⟩ | ⟨z2, e2⟩
    · cases z
    rw [List.getElem?_set_ne (Ne.symm z1), List.getElem?_set_ne (Ne.symm z2)]
    exact h.uq j k xs ys a e1 e2
  kk := fun j tp x e => by
    rcases getset e with ⟨_, z, _⟩ | ⟨z, e⟩
    · cases z
    · rw [List.getElem?_set_ne (Ne.symm z)]; exact h.kk j tp x e
  uk := fun j k t t' xs ys a e1 e2 => by
    rcases getset e1 with ⟨_, z, _⟩ | ⟨z1, e1⟩
    · cases z
    rcases getset e2 with ⟨_, z, _⟩ | ⟨z2, e2⟩
    · cases z
    rw [List.getElem?_set_ne (Ne.symm z1), List.getElem?_set_ne (Ne.symm z2)]
    exact h.uk j k t t' xs ys a e1 e2
  ll := fun j e => by
    rcases getset e with ⟨_, z, _⟩ | ⟨z, e⟩
    · cases z
    · rw [List.getElem?_set_ne (Ne.symm z)]; exact h.ll j e
  vv := fun j u e => by
    rcases getset e with ⟨_, z, _⟩ | ⟨z, e⟩
    · cases z
    · rw [List.getElem?_set_ne (Ne.symm z)]; exact h.vv j u e
  bk := h.bk
  ob := h.ob
  lb := h.lb
  lf := h.lf
theorem Rel.set_d (h : Rel L B O H σ δ n) (i : Nat) (hv : Dt B H v x) : Rel L B O H (σ.set i (some v)) (δ.set i (.d x)) n where
  len := by rw [List.length_set, List.length_set]; exact h.len
  dd := fun j y e => by
    rcases getset e with ⟨rfl, z, l⟩ | ⟨z, e⟩
    · cases z
      exact ⟨v, by rw [List.getElem?_set_self (by rw [h.len]; exact l)], hv⟩
    · rw [List.getElem?_set_ne (Ne.symm z)]; exact h.dd j y e
  oo := fun j x e => by
    rcases getset e with ⟨_, z, _⟩ | ⟨z, e⟩
    · cases z
    · rw [List.getElem?_set_ne (Ne.symm z)]; exact h.oo j x e
  uq := fun j k xs ys a e1 e2 => by
    rcases getset e1 with ⟨_, z, _⟩ | ⟨z1, e1⟩
    · cases z
    rcases getset e2 with ⟨_, z, _⟩ | ⟨z2, e2⟩
    · cases z
    rw [List.getElem?_set_ne (Ne.symm z1), List.getElem?_set_ne (Ne.symm z2)]
    exact h.uq j k xs ys a e1 e2
  kk := fun j tp x e => by
    rcases getset e with ⟨_, z, _⟩ | ⟨z, e⟩
    · cases z
    · rw [List.getElem?_set_ne (Ne.symm z)]; exact h.kk j tp x e
  uk := fun j k t t' xs ys a e1 e2 => by
    rcases getset e1 with ⟨_, z, _⟩ | ⟨z1, e1⟩
    · cases z
    rcases getset e2 with ⟨_, z, _⟩ | ⟨z2, e2⟩
    · cases z
    rw [List.getElem?_set_ne (Ne.symm z1), List.getElem?_set_ne (Ne.symm z2)]
    exact h.uk j k t t' xs ys a e1 e2
  ll := fun j e => by
    rcases getset e with ⟨_, z, _⟩ | ⟨z, e⟩
    · cases z
    · rw [List.getElem?_set_ne (Ne.symm z)]; exact h.ll j e
  vv := fun j u e => by
    rcases getset e with ⟨_, z, _⟩ | ⟨z, e⟩
    · cases z
    · rw [List.getElem?_set_ne (Ne.symm z)]; exact h.vv j u e
  bk := h.bk
  ob := h.ob
  lb := h.lb
  lf := h.lf
theorem Rel.set_l (h : Rel L B O H σ δ n) (i : Nat) (ha : a ∈ L) : Rel L B O H (σ.set i (some (.ref a))) (δ.set i .l) n where
  len := by rw [List.length_set, List.length_set]; exact h.len
  dd := fun j x e => by
    rcases getset e with ⟨_, z, _⟩ | ⟨z, e⟩
    · cases z
    · rw [List.getElem?_set_ne (Ne.symm z)]; exact h.dd j x e
  oo := fun j x e => by
    rcases getset e with ⟨_, z, _⟩ | ⟨z, e⟩
    · cases z
    · rw [List.getElem?_set_ne (Ne.symm z)]; exact h.oo j x e
  uq := fun j k xs ys a e1 e2 => by
    rcases getset e1 with ⟨_, z, _⟩ | ⟨z1, e1⟩
    · cases z
    rcases getset e2 with ⟨_, z, _⟩ | ⟨z2, e2⟩
    · cases z
    rw [List.getElem?_set_ne (Ne.symm z1), List.getElem?_set_ne (Ne.symm z2)]
    exact h.uq j k xs ys a e1 e2
  kk := fun j tp x e => by
    rcases getset e with ⟨_, z, _⟩ | ⟨z, e⟩
    · cases z
    · rw [List.getElem?_set_ne (Ne.symm z)]; exact h.kk j tp x e
  uk := fun j k t t' xs ys a e1 e2 => by
    rcases getset e1 with ⟨_, z, _⟩ | ⟨z1, e1⟩
    · cases z
    rcases getset e2 with ⟨_, z, _⟩ | ⟨z2, e2⟩
    · cases z
    rw [List.getElem?_set_ne (Ne.symm z1), List.getElem?_set_ne (Ne.symm z2)]
    exact h.uk j k t t' xs ys a e1 e2
  ll := fun j e => by
    rcases getset e with ⟨rfl, _, l⟩ | ⟨z, e⟩
    · exact ⟨a, ha, by rw [List.getElem?_set_self (by rw [h.len]; exact l)]⟩
    · rw [List.getElem?_set_ne (Ne.symm z)]; exact h.ll j e
  vv := fun j u e => by
    rcases getset e with ⟨_, z, _⟩ | ⟨z, e⟩
    · cases z
    · rw [List.getElem?_set_ne (Ne.symm z)]; exact h.vv j u e
  bk := h.bk
  ob := h.ob
  lb := h.lb
  lf := h.lf
theorem Rel.set_o (h : Rel L B O H σ δ n) (i : Nat) (ha : a ∈ O) (hs : H a = some (.lst vs)) (hA : DtA B H vs xs) (hu : ∀ (j : Nat) ys, j ≠ i → δ[j]? = some (Sl.o ys) → σ[j]? ≠ some (some (.ref a))) : Rel L B O H (σ.set i (some (.ref a))) (δ.set i (.o xs)) n where
  len := by rw [List.length_set, List.length_set]; exact h.len
  dd := fun j x e => by
    rcases getset e with ⟨_, z, _⟩ | ⟨z, e⟩
    · cases z
    · rw [List.getElem?_set_ne (Ne.symm z)]; exact h.dd j x e
  oo := fun j x e => by
    rcases getset e with ⟨rfl, z, l⟩ | ⟨z, e⟩
    · cases z
      exact ⟨a, vs, by rw [List.getElem?_set_self (by rw [h.len]; exact l)], ha, hs, hA⟩
    · rw [List.getElem?_set_ne (Ne.symm z)]; exact h.oo j x e
  uq := fun j k xs ys b p1 p2 f1 f2 => by
    rcases getset p1 with ⟨rfl, _, l1⟩ | ⟨z1, e1⟩
    · rw [List.getElem?_set_self (by rw [h.len]; exact l1)] at f1
      cases f1
      rcases getset p2 with ⟨rfl, _, l⟩ | ⟨z2, e2⟩
      · rfl
      · rw [List.getElem?_set_ne (Ne.symm z2)] at f2
        exact absurd f2 (hu k _ z2 e2)
    · rw [List.getElem?_set_ne (Ne.symm z1)] at f1
      rcases getset p2 with ⟨rfl, _, l⟩ | ⟨z2, e2⟩
      · rw [List.getElem?_set_self (by rw [h.len]; exact l)] at f2
        cases f2
        exact absurd f1 (hu j _ z1 e1)
      · rw [List.getElem?_set_ne (Ne.symm z2)] at f2
        exact h.uq j k _ _ b e1 e2 f1 f2
  kk := fun j tp x e => by
    rcases getset e with ⟨_, z, _⟩ | ⟨z, e⟩
    · cases z
    · rw [List.getElem?_set_ne (Ne.symm z)]; exact h.kk j tp x e
  uk := fun j k t t' xs ys a e1 e2 => by
    rcases getset e1 with ⟨_, z, _⟩ | ⟨z1, e1⟩
    · cases z
    rcases getset e2 with ⟨_, z, _⟩ | ⟨z2, e2⟩
    · cases z
    rw [List.getElem?_set_ne (Ne.symm z1), List.getElem?_set_ne (Ne.symm z2)]
    exact h.uk j k t t' xs ys a e1 e2
  ll := fun j e => by
    rcases getset e with ⟨_, z, _⟩ | ⟨z, e⟩
    · cases z
    · rw [List.getElem?_set_ne (Ne.symm z)]; exact h.ll j e
  vv := fun j u e => by
    rcases getset e with ⟨_, z, _⟩ | ⟨z, e⟩
    · cases z
    · rw [List.getElem?_set_ne (Ne.symm z)]; exact h.vv j u e
  bk := h.bk
  ob := h.ob
  lb := h.lb
  lf := h.lf
/-- another address to keep clear of -/
theorem Rel.fr (h : Rel L B O H σ δ n) (ha : H a = none) (g : Go L H H') (e : H' a ≠ none ∧ ∀ vs, H' a ≠ some (.tup vs)) (f : Lfs L H' m) : Rel L (a :: B) O H' σ δ m where
  len := h.len
  dd := fun i x e => by
    obtain ⟨v, e1, dv⟩ := h.dd i x e
    exact ⟨v, e1, (dv.fr ha).g (g.w fun b hb => List.mem_cons_of_mem _ (h.lb b hb))⟩
  oo := fun i xs e => by
    obtain ⟨b, vs, e1, hb, hs, hA⟩ := h.oo i xs e
    exact ⟨b, vs, e1, hb, g.k b _ (h.ob b hb).2 hs, (hA.fr ha).g (g.w fun b hb => List.mem_cons_of_mem _ (h.lb b hb))⟩
  uq := h.uq
  kk := fun i tp ks e => by
    obtain ⟨b, e1, hb, hd⟩ := h.kk i tp ks e
    exact ⟨b, e1, hb, hd.to (hd.kg g (h.ob b hb).2) fun _ _ hA => (hA.fr ha).g (g.w fun b hb => List.mem_cons_of_mem _ (h.lb b hb))⟩
  uk := h.uk
  ll := h.ll
  vv := h.vv
  bk := fun b hb => by
    rcases List.mem_cons.mp hb with z | z
    · rw [z]; exact e
    · exact h.bk.go g b z
  ob := fun b hb => ⟨List.mem_cons_of_mem _ (h.ob b hb).1, (h.ob b hb).2⟩
  lb := fun b hb => List.mem_cons_of_mem _ (h.lb b hb)
  lf := f
theorem Rel.fewer (h : Rel L B O H σ δ n) {B' : List Addr} (s : ∀ b ∈ B', b ∈ B) (so : ∀ b ∈ O, b ∈ B') (sl : ∀ b ∈ L, b ∈ B') : Rel L B' O H σ δ n where
  len := h.len
  dd := fun i x e => by
    obtain ⟨v, e1, dv⟩ := h.dd i x e
    exact ⟨v, e1, dv.sub s⟩
  oo := fun i xs e => by
    obtain ⟨b, vs, e1, hb, hs, hA⟩ := h.oo i xs e
    exact ⟨b, vs, e1, hb, hs, hA.sub s⟩
  uq := h.uq
  kk := fun i tp ks e => by
    obtain ⟨b, e1, hb, hd⟩ := h.kk i tp ks e
    exact ⟨b, e1, hb, hd.to rfl fun _ _ hA => hA.sub s⟩
  uk := h.uk
  ll := h.ll
  vv := h.vv
  bk := fun b hb => h.bk b (s b hb)
  ob := fun b hb => ⟨so b hb, (h.ob b hb).2⟩
  lb := sl
  lf := h.lf
/-- a list of one's own is made -/
theorem Rel.mk_o (h : Rel L B O H σ δ n) (i : Nat) (ha : H a = none) (g : Go L H H') (hs : H' a = some (.lst vs)) (hA : DtA (a :: B) H' vs xs) (f : Lfs L H' m) : Rel L (a :: B) (a :: O) H' (σ.set i (some (.ref a))) (δ.set i (.o xs)) m := by
  have aL : a ∉ L := fun z => (h.bk a (h.lb a z)).1 ha
  have r := h.fr ha g (by rw [hs]; exact ⟨(fun z => nomatch z), fun _ z => nomatch z⟩) f
  have r2 : Rel L (a :: B) (a :: O) H' σ δ m := ⟨r.len, r.dd, fun i xs e => by
    obtain ⟨b, vs, e1, hb, hs, hA⟩ := r.oo i xs e
    exact ⟨b, vs, e1, List.mem_cons_of_mem _ hb, hs, hA⟩, r.uq, fun i tp ks e => by
    obtain ⟨b, e1, hb, hd⟩ := r.kk i tp ks e
    exact ⟨b, e1, List.mem_cons_of_mem _ hb, hd⟩, r.uk, r.ll, r.vv, r.bk, fun b hb => by
      rcases List.mem_cons.mp hb with z | z
      · rw [z]; exact ⟨List.mem_cons_self .., aL⟩
      · exact r.ob b z, r.lb, r.lf⟩
  refine r2.set_o i (List.mem_cons_self ..) hs hA fun j ys nj e z => ?_
  obtain ⟨b, ws, e1, hb, hsb, _⟩ := h.oo j ys e
  rw [z] at e1
  cases e1
  rw [ha] at hsb
  cases hsb
/-- what is in it changes -/
theorem Rel.mut (h : Rel L B O H σ δ n) {i : Nat} {ys : List PyData} {ws : List V} (e : δ[i]? = some (.o xs)) (ea : σ[i]? = some (some (.ref a))) (hA : DtA B H ws ys) : Rel L B O (upd H a (.lst ws)) σ (δ.set i (.o ys)) n := by
  obtain ⟨b, vs, e1, hb, hs, _⟩ := h.oo i xs e
  rw [ea] at e1
  cases e1
  have g : Go B H (upd H a (.lst ws)) := Go.refl.at (h.ob a hb).1
  have li : i < δ.length := (List.getElem?_eq_some_iff.mp e).1
  have es : σ.set i (some (.ref a)) = σ := by
    apply List.ext_getElem?
    intro j
    by_cases q : i = j
    · subst q
      rw [List.getElem?_set_self (by rw [h.len]; exact li), ea]
    · rw [List.getElem?_set_ne q]
  have hu : ∀ (j : Nat) zs, j ≠ i → δ[j]? = some (Sl.o zs) → σ[j]? ≠ some (some (.ref a)) := fun j zs nj ej z => nj (h.uq j i zs xs a ej e z ea)
  exact {
    len := by rw [List.length_set]; exact h.len
    dd := fun j x ej => by
      rcases getset ej with ⟨_, z, _⟩ | ⟨z, ej⟩
      · cases z
      · obtain ⟨v, e1, dv⟩ := h.dd j x ej
        exact ⟨v, e1, dv.g g⟩
    oo := fun j zs ej => by
      rcases getset ej with ⟨rfl, z, l⟩ | ⟨z, ej⟩
      · cases z
        exact ⟨a, ws, ea, hb, upd_same, hA.g g⟩
      · obtain ⟨c, us, e1, hc, hsc, hC⟩ := h.oo j zs ej
        refine ⟨c, us, e1, hc, ?_, hC.g g⟩
        rw [upd_ne (fun q => hu j zs z ej (by rw [← q]; exact e1))]
        exact hsc
    uq := fun j k zs ts c pj pk f1 f2 => by
      rcases getset pj with ⟨rfl, _, l1⟩ | ⟨z1, ej⟩
      · rcases getset pk with ⟨rfl, _, l⟩ | ⟨z2, ek⟩
        · rfl
        · exact h.uq _ _ _ _ c e ek f1 f2
      · rcases getset pk with ⟨rfl, _, l⟩ | ⟨z2, ek⟩
        · exact h.uq _ _ _ _ c ej e f1 f2
        · exact h.uq _ _ _ _ c ej ek f1 f2
    kk := fun j tp ks ej => by
      rcases getset ej with ⟨_, z, _⟩ | ⟨z, ej⟩
      · cases z
      · obtain ⟨c, e1, hc, hd⟩ := h.kk j tp ks ej
        refine ⟨c, e1, hc, hd.to (upd_ne fun q => ?_) fun _ _ hA => hA.g g⟩
        obtain ⟨o, eo, _, no, _⟩ := hd.at_
        rw [q, hs] at eo
        cases eo
        exact no _ rfl
    uk := fun j k t t' xs ys c pj pk f1 f2 => by
      rcases getset pj with ⟨_, z, _⟩ | ⟨z1, ej⟩
      · cases z
      rcases getset pk with ⟨_, z, _⟩ | ⟨z2, ek⟩
      · cases z
      exact h.uk _ _ _ _ _ _ c ej ek f1 f2
    ll := fun j ej => by
      rcases getset ej with ⟨_, z, _⟩ | ⟨z, ej⟩
      · cases z
      · exact h.ll j ej
    vv := fun j u ej => by
      rcases getset ej with ⟨_, z, _⟩ | ⟨z, ej⟩
      · cases z
      · exact h.vv j u ej
    bk := h.bk.go g
    ob := h.ob
    lb := h.lb
    lf := h.lf.upL (h.ob a hb).2 }
/-- it changes no more: data from here on -/
theorem Rel.frz (h : Rel L B O H σ δ n) {i : Nat} (e : δ[i]? = some (.o xs)) : ∃ a, a ∈ O ∧ Rel L (B.filter (· ≠ a)) (O.filter (· ≠ a)) H σ (δ.set i (.d (.list xs))) n := by
  obtain ⟨a, vs, e1, ha, hs, hA⟩ := h.oo i xs e
  have sub : ∀ b ∈ B.filter (· ≠ a), b ∈ B := fun b hb => (List.mem_filter.mp hb).1
  refine ⟨a, ha, ?_⟩
  exact {
    len := by rw [List.length_set]; exact h.len
    dd := fun j x ej => by
      rcases getset ej with ⟨rfl, z, _⟩ | ⟨z, ej⟩
      · cases z
        exact ⟨_, e1, .lst (fun q => by have := (List.mem_filter.mp q).2; simp at this) hs (hA.sub sub)⟩
      · obtain ⟨v, f1, dv⟩ := h.dd j x ej
        exact ⟨v, f1, dv.sub sub⟩
    oo := fun j zs ej => by
      rcases getset ej with ⟨_, z, _⟩ | ⟨z, ej⟩
      · cases z
      · obtain ⟨b, us, f1, hb, hsb, hB⟩ := h.oo j zs ej
        refine ⟨b, us, f1, List.mem_filter.mpr ⟨hb, ?_⟩, hsb, hB.sub sub⟩
        have : b ≠ a := fun q => z (h.uq j i zs xs a ej e (by rw [← q]; exact f1) e1)
        simpa using this
    uq := fun j k zs ts c ej ek f1 f2 => by
      rcases getset ej with ⟨_, z, _⟩ | ⟨z1, ej⟩
      · cases z
      rcases getset ek with ⟨_, z, _⟩ | ⟨z2, ek⟩
      · cases z
      exact h.uq _ _ _ _ c ej ek f1 f2
    kk := fun j tp ks ej => by
      rcases getset ej with ⟨_, z, _⟩ | ⟨z, ej⟩
      · cases z
      · obtain ⟨c, f1, hc, hd⟩ := h.kk j tp ks ej
        refine ⟨c, f1, List.mem_filter.mpr ⟨hc, ?_⟩, hd.to rfl fun _ _ hA => hA.sub sub⟩
        have : c ≠ a := fun q => by
          obtain ⟨o, eo, _, no, _⟩ := hd.at_
          rw [q, hs] at eo
          cases eo
          exact no _ rfl
        simpa using this
    uk := fun j k t t' xs ys c pj pk f1 f2 => by
      rcases getset pj with ⟨_, z, _⟩ | ⟨z1, ej⟩
      · cases z
      rcases getset pk with ⟨_, z, _⟩ | ⟨z2, ek⟩
      · cases z
      exact h.uk _ _ _ _ _ _ c ej ek f1 f2
    ll := fun j ej => by
      rcases getset ej with ⟨_, z, _⟩ | ⟨z, ej⟩
      · cases z
      · exact h.ll j ej
    vv := fun j u ej => by
      rcases getset ej with ⟨_, z, _⟩ | ⟨z, ej⟩
      · cases z
      · exact h.vv j u ej
    bk := fun b hb => h.bk b (sub b hb)
    ob := fun b hb => by
      have := List.mem_filter.mp hb
      exact ⟨List.mem_filter.mpr ⟨(h.ob b this.1).1, this.2⟩, (h.ob b this.1).2⟩
    lb := fun b hb => List.mem_filter.mpr ⟨h.lb b hb, by
      have : b ≠ a := fun q => (h.ob a ha).2 (by rw [← q]; exact hb)
      simpa using this⟩
    lf := h.lf }
end
def wipeD (δ : List Sl) : List Nat → List Sl
  | [] => δ
  | v :: vs => (wipeD δ vs).set v .no
theorem Rel.wipe {L B O : List Addr} {H : Hp} {σ : L2.St} {δ : List Sl} {n : Nat} (h : Rel L B O H σ δ n) : ∀ vs : List Nat, Rel L B O H (L2.wipe σ vs) (wipeD δ vs) n
  | [] => h
  | v :: vs => by
    show Rel L B O H ((L2.wipe σ vs).set v none) ((wipeD δ vs).set v .no) n
    exact (h.wipe vs).set_no v none
theorem wipe_set (σ : L2.St) (i : Nat) (x : Option V) : ∀ vs : List Nat, i ∈ vs → L2.wipe (σ.set i x) vs = L2.wipe σ vs
  | [], h => nomatch h
  | v :: vs, h => by
    show (L2.wipe (σ.set i x) vs).set v none = (L2.wipe σ vs).set v none
    by_cases q : i ∈ vs
    · rw [wipe_set σ i x vs q]
    · have e : i = v := by
        rcases List.mem_cons.mp h with z | z
        · exact z
        · exact absurd z q
      subst e
      have k : ∀ us : List Nat, i ∉ us → L2.wipe (σ.set i x) us = (L2.wipe σ us).set i x := by
        intro us
        induction us with
        | nil => intro _; rfl
        | cons u us ih =>
          intro hu
          show (L2.wipe (σ.set i x) us).set u none = ((L2.wipe σ us).set u none).set i x
          rw [ih fun z => hu (List.mem_cons_of_mem _ z), List.set_comm _ _ (fun z : i = u => hu (by rw [z]; exact List.mem_cons_self ..))]
      rw [k vs q, List.set_set]
theorem wipe_wipe (σ : L2.St) : ∀ (us vs : List Nat), (∀ i ∈ us, i ∈ vs) → L2.wipe (L2.wipe σ us) vs = L2.wipe σ vs
  | [], vs, _ => rfl
  | u :: us, vs, h => by
    show L2.wipe ((L2.wipe σ us).set u none) vs = L2.wipe σ vs
    rw [wipe_set _ u none vs (h u (List.mem_cons_self ..)), wipe_wipe σ us vs fun i hi => h i (List.mem_cons_of_mem _ hi)]
/-! ### values handed in -/
inductive VrA (L B : List Addr) (H : Hp) : List V → List Sl → Prop
  | nil : VrA L B H [] []
  | d {v : V} {x : PyData} {vs : List V} {ds : List Sl} : Dt B H v x → VrA L B H vs ds → VrA L B H (v :: vs) (.d x :: ds)
  | l {a : Addr} {vs : List V} {ds : List Sl} : a ∈ L → VrA L B H vs ds → VrA L B H (.ref a :: vs) (.l :: ds)
theorem VrA.len {L B : List Addr} {H : Hp} {vs : List V} {ds : List Sl} (h : VrA L B H vs ds) : vs.length = ds.length := by
  induction h with
  | nil => rfl
  | d _ _ ih => rw [List.length_cons, List.length_cons, ih]
  | l _ _ ih => rw [List.length_cons, List.length_cons, ih]
theorem VrA.go {L B : List Addr} {H H' : Hp} (lb : ∀ a ∈ L, a ∈ B) (g : Go L H H') {vs : List V} {ds : List Sl} (h : VrA L B H vs ds) : VrA L B H' vs ds := by
  induction h with
  | nil => exact .nil
  | d h _ ih => exact .d (h.g (g.w lb)) ih
  | l h _ ih => exact .l h ih
theorem VrA.dts {L B : List Addr} {H : Hp} : ∀ {ds : List PyData} {vs : List V}, VrA L B H vs (ds.map Sl.d) → DtA B H vs ds
  | [], _, h => by cases h; exact .nil
  | x :: ds, _, h => by
    rw [List.map_cons] at h
    cases h with
    | d h1 h2 => exact .cons h1 (VrA.dts h2)
def dts : List Sl → Option (List PyData)
  | [] => some []
  | .d x :: r => (dts r).map fun ys => x :: ys
  | _ :: _ => none
theorem dts_map : ∀ {xs : List Sl} {ds : List PyData}, dts xs = some ds → xs = ds.map Sl.d
  | [], ds, h => by
    cases h
    rfl
  | .d x :: r, ds, h => by
    unfold dts at h
    cases e : dts r with
    | none => rw [e] at h; cases h
    | some ys =>
      rw [e] at h
      cases h
      rw [List.map_cons, dts_map e]
  | .no :: _, _, h => nomatch h
  | .o _ :: _, _, h => nomatch h
  | .l :: _, _, h => nomatch h
  | .v _ :: _, _, h => nomatch h
  | .k _ _ :: _, _, h => nomatch h
abbrev DQ := PyData → Nat → Prop
abbrev DE := List Sl → Nat → DQ → Prop
abbrev DA := List Sl → Nat → (List Sl → Nat → Prop) → Prop
abbrev DTt := List Sl → Nat → (Bool → Nat → Prop) → Prop
abbrev DI := List Sl → Nat → (List PyData → Nat → Prop) → Prop
abbrev DG := PyData → List Sl → (List Sl → Prop) → Prop
structure SE (te : TE) (f : DE) : Prop where
  run : ∀ {L B O : List Addr} {H : Hp} {σ : L2.St} {δ : List Sl} {n : Nat} {Q : VK} {K : DQ}, Rel L B O H σ δ n → f δ n K → (∀ d m v H', K d m → Go L H H' → Lfs L H' m → Dt B H' v d → Q v H') → te σ H Q
/-- what tells a new list -/
structure SN (te : TE) (f : DI) : Prop where
  run : ∀ {L B O : List Addr} {H : Hp} {σ : L2.St} {δ : List Sl} {n : Nat} {Q : VK} {K : List PyData → Nat → Prop}, Rel L B O H σ δ n → f δ n K → (∀ xs m a vs H', K xs m → Go L H H' → Lfs L H' m → H a = none → H' a = some (.lst vs) → DtA (a :: B) H' vs xs → Q (.ref a) H') → te σ H Q
structure SA (ta : TA) (f : DA) : Prop where
  run : ∀ {L B O : List Addr} {H : Hp} {σ : L2.St} {δ : List Sl} {n : Nat} {Q : List V → Hp → Prop} {K : List Sl → Nat → Prop}, Rel L B O H σ δ n → f δ n K → (∀ ds m vs H', K ds m → Go L H H' → Lfs L H' m → VrA L B H' vs ds → Q vs H') → ta σ H Q
structure ST (tt : TT) (f : DTt) : Prop where
  run : ∀ {L B O : List Addr} {H : Hp} {σ : L2.St} {δ : List Sl} {n : Nat} {Q : Bool → Hp → Prop} {K : Bool → Nat → Prop}, Rel L B O H σ δ n → f δ n K → (∀ b m H', K b m → Go L H H' → Lfs L H' m → Q b H') → tt σ H Q
structure SG (tg : List Nat) (g : TG) (f : DG) : Prop where
  run : ∀ {L B O : List Addr} {H : Hp} {σ : L2.St} {δ : List Sl} {n : Nat} {Q : L2.St → Hp → Prop} {K : List Sl → Prop} {v : V} {d : PyData}, Rel L B O H σ δ n → Dt B H v d → f d δ K → (∀ σ' δ', K δ' → Rel L B O H σ' δ' n → (∀ vs : List Nat, (∀ i ∈ tg, i ∈ vs) → L2.wipe σ' vs = L2.wipe σ vs) → Q σ' H) → g v σ H Q
structure SR2 (r : R2) (f : PyData → PyData → (PyData → Prop) → Prop) : Prop where
  run : ∀ {B : List Addr} {H : Hp} {x y : V} {dx dy : PyData} {Q : VK} {K : PyData → Prop}, Bk B H → Dt B H x dx → Dt B H y dy → f dx dy K → (∀ d v H', K d → Same H H' → Dt B H' v d → Q v H') → r x y H Q
structure SC (r : List V → Hp → VK → Prop) (f : List PyData → (PyData → Prop) → Prop) : Prop where
  run : ∀ {B : List Addr} {H : Hp} {vs : List V} {ds : List PyData} {Q : VK} {K : PyData → Prop}, Bk B H → DtA B H vs ds → f ds K → (∀ d v H', K d → Same H H' → Dt B H' v d → Q v H') → r vs H Q
structure SCN (r : List V → Hp → VK → Prop) (f : List PyData → (List PyData → Prop) → Prop) : Prop where
  run : ∀ {B : List Addr} {H : Hp} {vs : List V} {ds : List PyData} {Q : VK} {K : List PyData → Prop}, Bk B H → DtA B H vs ds → f ds K → (∀ xs a us H', K xs → Same H H' → H a = none → H' a = some (.lst us) → DtA (a :: B) H' us xs → Q (.ref a) H') → r vs H Q
/-! ### expressions -/
def fVar (i : Nat) : DE := fun δ n K => ∃ x, δ[i]? = some (.d x) ∧ K x n
def fC (x : PyData) : DE := fun _ n K => K x n
def fOp (rd : PyData → PyData → (PyData → Prop) → Prop) (fa fb : DE) : DE := fun δ n K => fa δ n fun x m => fb δ m fun y k => rd x y fun d => K d k
def fUn (rd : PyData → (PyData → Prop) → Prop) (fa : DE) : DE := fun δ n K => fa δ n fun x m => rd x fun d => K d m
theorem sv (i : Nat) : SE (tVar i) (fVar i) := ⟨fun h ⟨x, e, k⟩ q => by
  obtain ⟨v, e1, dv⟩ := h.dd i x e
  exact ⟨v, e1, q x _ v _ k Go.refl h.lf dv⟩⟩
theorem se_int {i : Int} : SE (tC (.int i)) (fC (.int i)) := ⟨fun h k q => q _ _ _ _ k Go.refl h.lf (.int i)⟩
theorem se_bl {i : Bool} : SE (tC (.bl i)) (fC (.bool i)) := ⟨fun h k q => q _ _ _ _ k Go.refl h.lf (.bl i)⟩
theorem se_str {i : Str} : SE (tC (.str i)) (fC (.str i)) := ⟨fun h k q => q _ _ _ _ k Go.refl h.lf (.str i)⟩
theorem se_non : SE (tC .non) (fC .none) := ⟨fun h k q => q _ _ _ _ k Go.refl h.lf .non⟩
theorem se_op {r : R2} {rd} {ta tb : TE} {fa fb : DE} (hr : SR2 r rd) (ha : SE ta fa) (hb : SE tb fb) : SE (tOp r ta tb) (fOp rd fa fb) := ⟨fun {L B O H σ δ n Q K} h k q => ha.run h k fun x m v H1 k1 g1 l1 d1 => hb.run (h.go g1 l1) k1 fun y j u H2 k2 g2 l2 d2 => by
  have h2 := (h.go g1 l1).go g2 l2
  refine hr.run h2.bk (d1.g (g2.w h.lb)) d2 k2 fun d w H3 k3 s3 d3 => ?_
  exact q d j w H3 k3 ((g1.trans g2).trans (Go.of s3)) (l2.same s3) d3⟩
/-- a new list as data -/
def fNw (f : DI) : DE := fun δ n K => f δ n fun xs m => K (.list xs) m
theorem SN.se {te : TE} {f : DI} (h : SN te f) : SE te (fNw f) := ⟨fun {L B O H σ δ n Q K} r k q => h.run r k fun xs m a vs H' k1 g l e1 e2 hA => q _ _ _ _ k1 g l (.lst (r.bk.ne e1) e2 hA.un)⟩
/-! ### lists of arguments -/
def fNil : DA := fun _ n K => K [] n
def fCons (fa : DE) (fr : DA) : DA := fun δ n K => fa δ n fun x m => fr δ m fun xs k => K (.d x :: xs) k
def fConsL (i : Nat) (fr : DA) : DA := fun δ n K => δ[i]? = some .l ∧ fr δ n fun xs k => K (.l :: xs) k
theorem sa_nil : SA tNil fNil := ⟨fun h k q => q _ _ _ _ k Go.refl h.lf .nil⟩
theorem sa_cons {te : TE} {tr : TA} {fa : DE} {fr : DA} (ha : SE te fa) (hr : SA tr fr) : SA (tCons te tr) (fCons fa fr) := ⟨fun h k q => ha.run h k fun x m v H1 k1 g1 l1 d1 => hr.run (h.go g1 l1) k1 fun xs j vs H2 k2 g2 l2 v2 => q _ _ _ _ k2 (g1.trans g2) l2 (.d (d1.g (g2.w h.lb)) v2)⟩
theorem sa_consL {i : Nat} {tr : TA} {fr : DA} (hr : SA tr fr) : SA (tCons (tVar i) tr) (fConsL i fr) := ⟨fun h ⟨e, k⟩ q => by
  obtain ⟨a, ha, ea⟩ := h.ll i e
  exact ⟨_, ea, hr.run h k fun xs j vs H2 k2 g2 l2 v2 => q _ _ _ _ k2 g2 l2 (.l ha v2)⟩⟩
/-! ### displays -/
def fTup (fa : DA) : DE := fun δ n K => fa δ n fun xs m => ∃ ds : List PyData, dts xs = some ds ∧ ds.length ≤ 100000 ∧ K (.tuple ds) m
def fLst (fa : DA) : DI := fun δ n K => fa δ n fun xs m => ∃ ds : List PyData, dts xs = some ds ∧ ds.length ≤ 100000 ∧ K ds m
theorem se_tup {ta : TA} {fa : DA} (ha : SA ta fa) : SE (tTup ta) (fTup fa) := ⟨fun h k q => ha.run h k fun xs m vs H1 ⟨ds, e, l, k1⟩ g1 l1 v1 => by
  cases dts_map e
  have hA := v1.dts
  have lv := hA.len
  refine ⟨Nat.le_of_lt (sz (by omega)), fun p hp => q _ _ _ _ k1 (g1.trans (Go.of (sm_new hp))) (l1.same (sm_new hp)) ?_⟩
  exact .tup ((h.bk.go g1).ne hp) upd_same (hA.s (sm_new hp))⟩
theorem sn_lst {ta : TA} {fa : DA} (ha : SA ta fa) : SN (tLst ta) (fLst fa) := ⟨fun h k q => ha.run h k fun xs m vs H1 ⟨ds, e, l, k1⟩ g1 l1 v1 => by
  cases dts_map e
  have hA := v1.dts
  have lv := hA.len
  exact ⟨Nat.le_of_lt (sz (by omega)), fun p hp => q _ _ p vs _ k1 (g1.trans (Go.of (sm_new hp))) (l1.same (sm_new hp)) (g1.free hp) upd_same ((hA.fr hp).s (sm_new hp))⟩⟩
/-! ### calls -/
def spD (R : List Sl → Nat → DQ → Prop) : Sp := fun vs H Q _ => ∃ (L B : List Addr) (ds : List Sl) (n : Nat) (K : DQ), VrA L B H vs ds ∧ Bk B H ∧ (∀ a ∈ L, a ∈ B) ∧ Lfs L H n ∧ R ds n K ∧ ∀ d m v H', K d m → Go L H H' → Lfs L H' m → Dt B H' v d → Q v H'
def spN (R : List Sl → Nat → (List PyData → Nat → Prop) → Prop) : Sp := fun vs H Q _ => ∃ (L B : List Addr) (ds : List Sl) (n : Nat) (K : List PyData → Nat → Prop), VrA L B H vs ds ∧ Bk B H ∧ (∀ a ∈ L, a ∈ B) ∧ Lfs L H n ∧ R ds n K ∧ ∀ xs m a us H', K xs m → Go L H H' → Lfs L H' m → H a = none → H' a = some (.lst us) → DtA (a :: B) H' us xs → Q (.ref a) H'
def fCall (R : List Sl → Nat → DQ → Prop) (fa : DA) : DE := fun δ n K => fa δ n fun xs m => R xs m K
def fCallN (R : List Sl → Nat → (List PyData → Nat → Prop) → Prop) (fa : DA) : DI := fun δ n K => fa δ n fun xs m => R xs m K
theorem se_call {R} {E : XK} {ta : TA} {fa : DA} (ha : SA ta fa) : SE (tCall (spD R) [] E ta) (fCall R fa) := ⟨fun {L B O H σ δ n Q K} h k q => ha.run h k fun xs m vs H1 k1 g1 l1 v1 => by
  rw [List.append_nil]
  exact ⟨L, B, xs, m, K, v1, h.bk.go g1, h.lb, l1, k1, fun d j v H2 k2 g2 l2 d2 => q d j v H2 k2 (g1.trans g2) l2 d2⟩⟩
theorem sn_call {R} {E : XK} {ta : TA} {fa : DA} (ha : SA ta fa) : SN (tCall (spN R) [] E ta) (fCallN R fa) := ⟨fun {L B O H σ δ n Q K} h k q => ha.run h k fun xs m vs H1 k1 g1 l1 v1 => by
  rw [List.append_nil]
  exact ⟨L, B, xs, m, K, v1, h.bk.go g1, h.lb, l1, k1, fun ys j a us H2 k2 g2 l2 e1 e2 d2 => q ys j a us H2 k2 (g1.trans g2) l2 (g1.free e1) e2 d2⟩⟩
def fCB (rd : List PyData → (PyData → Prop) → Prop) (fa : DA) : DE := fun δ n K => fa δ n fun xs m => ∃ ds : List PyData, dts xs = some ds ∧ rd ds fun d => K d m
def fCBN (rd : List PyData → (List PyData → Prop) → Prop) (fa : DA) : DI := fun δ n K => fa δ n fun xs m => ∃ ds : List PyData, dts xs = some ds ∧ rd ds fun d => K d m
theorem se_cb {r : List V → Hp → VK → Prop} {rd} {ta : TA} {fa : DA} (hr : SC r rd) (ha : SA ta fa) : SE (tCB r ta) (fCB rd fa) := ⟨fun {L B O H σ δ n Q K} h k q => ha.run h k fun xs m vs H1 ⟨ds, e, k1⟩ g1 l1 v1 => by
  cases dts_map e
  exact hr.run (h.bk.go g1) v1.dts k1 fun d v H2 k2 s2 d2 => q d m v H2 k2 (g1.trans (Go.of s2)) (l1.same s2) d2⟩
theorem sn_cb {r : List V → Hp → VK → Prop} {rd} {ta : TA} {fa : DA} (hr : SCN r rd) (ha : SA ta fa) : SN (tCB r ta) (fCBN rd fa) := ⟨fun {L B O H σ δ n Q K} h k q => ha.run h k fun xs m vs H1 ⟨ds, e, k1⟩ g1 l1 v1 => by
  cases dts_map e
  exact hr.run (h.bk.go g1) v1.dts k1 fun ys a us H2 k2 s2 e1 e2 d2 => q ys m a us H2 k2 (g1.trans (Go.of s2)) (l1.same s2) (g1.free e1) e2 d2⟩
/-! ### tests -/
def fTest (fe : DE) : DTt := fun δ n K => fe δ n fun d m => ∃ b, d = .bool b ∧ K b m
def fAndT (fa fb : DTt) : DTt := fun δ n K => fa δ n fun c m => if c = true then fb δ m K else K false m
def fOrT (fa fb : DTt) : DTt := fun δ n K => fa δ n fun c m => if c = true then K true m else fb δ m K
def fNotT (fa : DTt) : DTt := fun δ n K => fa δ n fun c m => K (!c) m
theorem st_B {te : TE} {fe : DE} (h : SE te fe) : ST (tB te) (fTest fe) := ⟨fun r k q => h.run r k fun d m v H1 ⟨b, e, k1⟩ g1 l1 d1 => by
  subst e
  cases d1
  exact ⟨b, rfl, q b m H1 k1 g1 l1⟩⟩
theorem st_test {te : TE} {fe : DE} (h : SE te fe) : ST (tTest te) (fTest fe) := ⟨fun r k q => h.run r k fun d m v H1 ⟨b, e, k1⟩ g1 l1 d1 => by
  subst e
  cases d1
  exact ⟨b, rfl, q b m H1 k1 g1 l1⟩⟩
theorem st_and {t u : TT} {f g : DTt} (h1 : ST t f) (h2 : ST u g) : ST (tAnd t u) (fAndT f g) := ⟨fun r k q => h1.run r k fun c m H1 k1 g1 l1 => by
  cases c with
  | true => exact iteT (h2.run (r.go g1 l1) k1 fun b j H2 k2 g2 l2 => q b j H2 k2 (g1.trans g2) l2)
  | false => exact iteF (q false m H1 k1 g1 l1)⟩
theorem st_or {t u : TT} {f g : DTt} (h1 : ST t f) (h2 : ST u g) : ST (tOr t u) (fOrT f g) := ⟨fun r k q => h1.run r k fun c m H1 k1 g1 l1 => by
  cases c with
  | false => exact iteF (h2.run (r.go g1 l1) k1 fun b j H2 k2 g2 l2 => q b j H2 k2 (g1.trans g2) l2)
  | true => exact iteT (q true m H1 k1 g1 l1)⟩
theorem st_not {t : TT} {f : DTt} (h1 : ST t f) : ST (tNot t) (fNotT f) := ⟨fun r k q => h1.run r k fun c m H1 k1 g1 l1 => q _ _ _ k1 g1 l1⟩
theorem st_yes : ST tYes (fun _ n K => K true n) := ⟨fun r k q => q true _ _ k Go.refl r.lf⟩
def fAndV (fa fb : DE) : DE := fun δ n K => fa δ n fun d m => ∃ c, d = .bool c ∧ if c = true then fb δ m K else K (.bool false) m
def fOrV (fa fb : DE) : DE := fun δ n K => fa δ n fun d m => ∃ c, d = .bool c ∧ if c = true then K (.bool true) m else fb δ m K
def fNotV (fa : DE) : DE := fun δ n K => fa δ n fun d m => ∃ c, d = .bool c ∧ K (.bool (!c)) m
theorem se_and {t u : TE} {f g : DE} (h1 : SE t f) (h2 : SE u g) : SE (tAndV t u) (fAndV f g) := ⟨fun r k q => h1.run r k fun d m v H1 ⟨c, e, k1⟩ g1 l1 d1 => by
  subst e
  cases d1
  refine ⟨c, rfl, ?_⟩
  cases c with
  | true => exact iteT (h2.run (r.go g1 l1) k1 fun b j v H2 k2 g2 l2 d2 => q b j v H2 k2 (g1.trans g2) l2 d2)
  | false => exact iteF (q _ m _ H1 k1 g1 l1 (.bl false))⟩
theorem se_or {t u : TE} {f g : DE} (h1 : SE t f) (h2 : SE u g) : SE (tOrV t u) (fOrV f g) := ⟨fun r k q => h1.run r k fun d m v H1 ⟨c, e, k1⟩ g1 l1 d1 => by
  subst e
  cases d1
  refine ⟨c, rfl, ?_⟩
  cases c with
  | false => exact iteF (h2.run (r.go g1 l1) k1 fun b j v H2 k2 g2 l2 d2 => q b j v H2 k2 (g1.trans g2) l2 d2)
  | true => exact iteT (q _ m _ H1 k1 g1 l1 (.bl true))⟩
theorem se_not {t : TE} {f : DE} (h1 : SE t f) : SE (tNotV t) (fNotV f) := ⟨fun r k q => h1.run r k fun d m v H1 ⟨c, e, k1⟩ g1 l1 d1 => by
  subst e
  cases d1
  exact ⟨c, rfl, q _ _ _ _ k1 g1 l1 (.bl _)⟩⟩
def fIf (ft : DTt) (fa fb : DE) : DE := fun δ n K => ft δ n fun c m => if c = true then fa δ m K else fb δ m K
theorem se_if {t : TT} {ta tb : TE} {ft : DTt} {fa fb : DE} (h1 : ST t ft) (h2 : SE ta fa) (h3 : SE tb fb) : SE (tIf t ta tb) (fIf ft fa fb) := ⟨fun r k q => h1.run r k fun c m H1 k1 g1 l1 => by
  cases c with
  | true => exact iteT (h2.run (r.go g1 l1) k1 fun b j v H2 k2 g2 l2 d2 => q b j v H2 k2 (g1.trans g2) l2 d2)
  | false => exact iteF (h3.run (r.go g1 l1) k1 fun b j v H2 k2 g2 l2 d2 => q b j v H2 k2 (g1.trans g2) l2 d2)⟩
def fChain (r1 r2 : PyData → PyData → (PyData → Prop) → Prop) (fa fb fc : DE) : DE := fun δ n K => fa δ n fun x m => fb δ m fun y j => r1 x y fun d => ∃ c, d = .bool c ∧ if c = true then fc δ j fun z k => r2 y z fun d => K d k else K (.bool false) j
theorem se_chain {r r' : R2} {rd rd'} {ta tb tc : TE} {fa fb fc : DE} (h1 : SR2 r rd) (h2 : SR2 r' rd') (ha : SE ta fa) (hb : SE tb fb) (hc : SE tc fc) : SE (tChain r r' ta tb tc) (fChain rd rd' fa fb fc) := ⟨fun {L B O H σ δ n Q K} h k q => ha.run h k fun x m v H1 k1 g1 l1 d1 => hb.run (h.go g1 l1) k1 fun y j u H2 k2 g2 l2 d2 => by
  have h2' := (h.go g1 l1).go g2 l2
  refine h1.run h2'.bk (d1.g (g2.w h.lb)) d2 k2 fun d w H3 ⟨c, e, k3⟩ s3 d3 => ?_
  subst e
  cases d3
  refine ⟨c, rfl, ?_⟩
  have h3 := h2'.s s3
  have t3 := (g1.trans g2).trans (Go.of s3)
  cases c with
  | false => exact iteF (q _ j _ H3 k3 t3 (l2.same s3) (.bl false))
  | true =>
    refine iteT (hc.run h3 k3 fun z i w H4 k4 g4 l4 d4 => ?_)
    refine h2.run (h3.go g4 l4).bk (((d2.s s3)).g (g4.w h.lb)) d4 k4 fun d w H5 k5 s5 d5 => ?_
    exact q d i w H5 k5 ((t3.trans g4).trans (Go.of s5)) (l4.same s5) d5⟩
theorem st_chain {r r' : R2} {rd rd'} {ta tb tc : TE} {fa fb fc : DE} (h1 : SR2 r rd) (h2 : SR2 r' rd') (ha : SE ta fa) (hb : SE tb fb) (hc : SE tc fc) : ST (tTest (tChain r r' ta tb tc)) (fTest (fChain rd rd' fa fb fc)) := st_test (se_chain h1 h2 ha hb hc)
end Z

set_option Elab.async false
set_option linter.all false
set_option maxRecDepth 100000
set_option maxHeartbeats 400000
namespace Z
open PySem PySem.Spec PyProof.Rows L2
variable [TabCtx]
def fYes : DTt := fun _ n K => K true n
theorem st_yesD : ST tYes fYes := ⟨fun r k q => q true _ _ k Go.refl r.lf⟩
/-! ### operators -/
def rdI (g : Int → Int → PyData) : PyData → PyData → (PyData → Prop) → Prop := fun x y K => ∃ i j, x = .int i ∧ y = .int j ∧ K (g i j)
def rdC (C : Int → Int → Prop) (g : Int → Int → PyData) : PyData → PyData → (PyData → Prop) → Prop := fun x y K => ∃ i j, x = .int i ∧ y = .int j ∧ C i j ∧ K (g i j)
section
variable {K : PySem.W.Frag}
theorem sr_int {g : Int → Int → Int} : SR2 (rI0 fun i j => .int (g i j)) (rdI fun i j => .int (g i j)) := ⟨fun hB hx hy ⟨i, j, e1, e2, k⟩ q => by
  subst e1 e2
  cases hx
  cases hy
  exact ⟨i, j, rfl, rfl, q _ _ _ k (Same.refl _) (.int _)⟩⟩
theorem sr_bool {g : Int → Int → Bool} : SR2 (rI0 fun i j => .bl (g i j)) (rdI fun i j => .bool (g i j)) := ⟨fun hB hx hy ⟨i, j, e1, e2, k⟩ q => by
  subst e1 e2
  cases hx
  cases hy
  exact ⟨i, j, rfl, rfl, q _ _ _ k (Same.refl _) (.bl _)⟩⟩
theorem sr_intC {C : Int → Int → Prop} {g : Int → Int → Int} : SR2 (rI C fun i j => .int (g i j)) (rdC C fun i j => .int (g i j)) := ⟨fun hB hx hy ⟨i, j, e1, e2, c, k⟩ q => by
  subst e1 e2
  cases hx
  cases hy
  exact ⟨i, j, rfl, rfl, c, q _ _ _ k (Same.refl _) (.int _)⟩⟩
theorem sr_eqI : SR2 rEq (rdI fun i j => .bool (decide (i = j))) := ⟨fun hB hx hy ⟨i, j, e1, e2, k⟩ q => by
  subst e1 e2
  cases hx
  cases hy
  exact ⟨rfl, by
    have e : decide (V.int i = V.int j) = decide (i = j) := by rw [Bool.eq_iff_iff]; simp
    rw [e]
    exact q _ _ _ k (Same.refl _) (.bl _)⟩⟩
theorem sr_neI : SR2 rNe (rdI fun i j => .bool (!decide (i = j))) := ⟨fun hB hx hy ⟨i, j, e1, e2, k⟩ q => by
  subst e1 e2
  cases hx
  cases hy
  exact ⟨rfl, by
    have e : decide (V.int i = V.int j) = decide (i = j) := by rw [Bool.eq_iff_iff]; simp
    rw [e]
    exact q _ _ _ k (Same.refl _) (.bl _)⟩⟩
def rdS (g : Str → Str → PyData) : PyData → PyData → (PyData → Prop) → Prop := fun x y K => ∃ i j, x = .str i ∧ y = .str j ∧ K (g i j)
theorem sr_eqS : SR2 rEq (rdS fun i j => .bool (decide (i = j))) := ⟨fun hB hx hy ⟨i, j, e1, e2, k⟩ q => by
  subst e1 e2
  cases hx
  cases hy
  exact ⟨rfl, by
    have e : decide (V.str i = V.str j) = decide (i = j) := by rw [Bool.eq_iff_iff]; simp
    rw [e]
    exact q _ _ _ k (Same.refl _) (.bl _)⟩⟩
theorem sr_neS : SR2 rNe (rdS fun i j => .bool (!decide (i = j))) := ⟨fun hB hx hy ⟨i, j, e1, e2, k⟩ q => by
  subst e1 e2
  cases hx
  cases hy
  exact ⟨rfl, by
    have e : decide (V.str i = V.str j) = decide (i = j) := by rw [Bool.eq_iff_iff]; simp
    rw [e]
    exact q _ _ _ k (Same.refl _) (.bl _)⟩⟩
def rdBb (g : Bool → Bool → PyData) : PyData → PyData → (PyData → Prop) → Prop := fun x y K => ∃ i j, x = .bool i ∧ y = .bool j ∧ K (g i j)
theorem sr_eqB : SR2 rEq (rdBb fun i j => .bool (decide (i = j))) := ⟨fun hB hx hy ⟨i, j, e1, e2, k⟩ q => by
  subst e1 e2
  cases hx
  cases hy
  exact ⟨rfl, by
    have e : decide (V.bl i = V.bl j) = decide (i = j) := by rw [Bool.eq_iff_iff]; simp
    rw [e]
    exact q _ _ _ k (Same.refl _) (.bl _)⟩⟩
def rdEqD (g : Bool → Bool) : PyData → PyData → (PyData → Prop) → Prop := fun x y K => SeqAt.shaped x = true ∧ SeqAt.shaped y = true ∧ K (.bool (g (PyData.eqv x y)))
theorem sr_eqD : SR2 (rEqD K) (rdEqD id) := ⟨fun hB hx hy ⟨e1, e2, k⟩ q => ⟨_, _, hx.dP, hy.dP, e1, e2, q _ _ _ k (Same.refl _) (.bl _)⟩⟩
theorem sr_neD : SR2 (rNeD K) (rdEqD not) := ⟨fun hB hx hy ⟨e1, e2, k⟩ q => ⟨_, _, hx.dP, hy.dP, e1, e2, q _ _ _ k (Same.refl _) (.bl _)⟩⟩
def rdCm (g : PyData → PyData → Bool) : PyData → PyData → (PyData → Prop) → Prop := fun x y K => PySem.W.alike x y = true ∧ x ≠ .none ∧ x.depth ≤ 50 ∧ K (.bool (g x y))
theorem sr_ltD : SR2 (rLtD K) (rdCm fun x y => PySem.W.dataLt x y) := ⟨fun hB hx hy ⟨e1, e2, e3, k⟩ q => ⟨_, _, hx.dP, hy.dP, e1, e2, e3, q _ _ _ k (Same.refl _) (.bl _)⟩⟩
theorem sr_leD : SR2 (rLeD K) (rdCm fun x y => !PySem.W.dataLt y x) := ⟨fun hB hx hy ⟨e1, e2, e3, k⟩ q => ⟨_, _, hx.dP, hy.dP, e1, e2, e3, q _ _ _ k (Same.refl _) (.bl _)⟩⟩
theorem sr_gtD : SR2 (rGtD K) (rdCm fun x y => PySem.W.dataLt y x) := ⟨fun hB hx hy ⟨e1, e2, e3, k⟩ q => ⟨_, _, hx.dP, hy.dP, e1, e2, e3, q _ _ _ k (Same.refl _) (.bl _)⟩⟩
def rdIn (g : Bool → Bool) : PyData → PyData → (PyData → Prop) → Prop := fun x y K => ∃ ds, y = .list ds ∧ SeqAt.shaped x = true ∧ SeqAt.shaped (.list ds) = true ∧ K (.bool (g (ds.any fun z => PyData.eqv z x)))
theorem sr_inD : SR2 (rInD K) (rdIn id) := ⟨fun hB hx hy ⟨ds, e, e1, e2, k⟩ q => by
  subst e
  exact ⟨_, _, hx.dP, hy.dP, e1, e2, q _ _ _ k (Same.refl _) (.bl _)⟩⟩
theorem sr_notInD : SR2 (rNotInD K) (rdIn not) := ⟨fun hB hx hy ⟨ds, e, e1, e2, k⟩ q => by
  subst e
  exact ⟨_, _, hx.dP, hy.dP, e1, e2, q _ _ _ k (Same.refl _) (.bl _)⟩⟩
def isNn : PyData → Bool
  | .none => true
  | _ => false
theorem sr_isN : SR2 (fun x y H Q => y = .non ∧ Q (.bl (decide (x = .non))) H) (fun x y K => y = .none ∧ K (.bool (isNn x))) := ⟨fun hB hx hy ⟨e, k⟩ q => by
  subst e
  cases hy
  refine ⟨rfl, q _ _ _ k (Same.refl _) ?_⟩
  cases hx <;> exact .bl _⟩
theorem sr_notN : SR2 (fun x y H Q => y = .non ∧ Q (.bl (!decide (x = .non))) H) (fun x y K => y = .none ∧ K (.bool (!isNn x))) := ⟨fun hB hx hy ⟨e, k⟩ q => by
  subst e
  cases hy
  refine ⟨rfl, q _ _ _ k (Same.refl _) ?_⟩
  cases hx <;> exact .bl _⟩
def rdIxL : PyData → PyData → (PyData → Prop) → Prop := fun x y K => ∃ xs z d, x = .list xs ∧ y = .int z ∧ atI xs z = some d ∧ K d
def rdIxT : PyData → PyData → (PyData → Prop) → Prop := fun x y K => ∃ xs z d, x = .tuple xs ∧ y = .int z ∧ atI xs z = some d ∧ K d
theorem atD {B : List Addr} {H : Hp} {vs : List V} {ds : List PyData} {z : Int} {d : PyData} (hA : DtA B H vs ds) (e : atI ds z = some d) : ∃ v, atI vs z = some v ∧ Dt B H v d := by
  unfold atI at e ⊢
  rw [hA.len]
  cases c : ixN ds.length z with
  | none => rw [c] at e; cases e
  | some j =>
    rw [c] at e
    obtain ⟨v, f, g⟩ := hA.get (i := j) (d := d) e
    exact ⟨v, f, g⟩
theorem sr_ixL : SR2 (rIxL K) rdIxL := ⟨fun hB hx hy ⟨xs, z, d, e1, e2, e3, k⟩ q => by
  subst e1 e2
  cases hy
  obtain ⟨a, vs, rfl, _, ha, hA⟩ := hx.lst2
  obtain ⟨v, f, g⟩ := atD hA e3
  exact ⟨a, vs, z, v, rfl, rfl, SqL.of ha, f, q _ _ _ k (Same.refl _) g⟩⟩
theorem sr_ixT : SR2 (rIxT K) rdIxT := ⟨fun hB hx hy ⟨xs, z, d, e1, e2, e3, k⟩ q => by
  subst e1 e2
  cases hy
  obtain ⟨a, vs, rfl, _, ha, hA⟩ := hx.tupI
  obtain ⟨v, f, g⟩ := atD hA e3
  exact ⟨a, vs, z, v, rfl, rfl, SqT.of ha, f, q _ _ _ k (Same.refl _) g⟩⟩
theorem sr_or {r r' : R2} {rd rd'} (h : SR2 r rd) (h' : SR2 r' rd') : SR2 (fun x y H Q => r x y H Q ∨ r' x y H Q) (fun x y K => rd x y K ∨ rd' x y K) := ⟨fun hB hx hy k q => by
  rcases k with k | k
  · exact .inl (h.run hB hx hy k q)
  · exact .inr (h'.run hB hx hy k q)⟩
def rdCatT : PyData → PyData → (PyData → Prop) → Prop := fun x y K => ∃ xs ys, x = .tuple xs ∧ y = .tuple ys ∧ xs.length + ys.length ≤ 100000 ∧ K (.tuple (xs ++ ys))
theorem sr_catA : SR2 (rCatA K) rdCatT := ⟨fun hB hx hy ⟨xs, ys, e1, e2, l, k⟩ q => by
  subst e1 e2
  exact cat_dt hx hy hB l fun v H' s' d' => q _ _ _ k s' d'⟩
/-- an operator that makes a new list -/
structure SRN (r : R2) (f : PyData → PyData → (List PyData → Prop) → Prop) : Prop where
  run : ∀ {B : List Addr} {H : Hp} {x y : V} {dx dy : PyData} {Q : VK} {K : List PyData → Prop}, Bk B H → Dt B H x dx → Dt B H y dy → f dx dy K → (∀ xs a us H', K xs → Same H H' → H a = none → H' a = some (.lst us) → DtA (a :: B) H' us xs → Q (.ref a) H') → r x y H Q
def fOpN (rd : PyData → PyData → (List PyData → Prop) → Prop) (fa fb : DE) : DI := fun δ n K => fa δ n fun x m => fb δ m fun y k => rd x y fun d => K d k
theorem sn_op {r : R2} {rd} {ta tb : TE} {fa fb : DE} (hr : SRN r rd) (ha : SE ta fa) (hb : SE tb fb) : SN (tOp r ta tb) (fOpN rd fa fb) := ⟨fun {L B O H σ δ n Q K} h k q => ha.run h k fun x m v H1 k1 g1 l1 d1 => hb.run (h.go g1 l1) k1 fun y j u H2 k2 g2 l2 d2 => by
  have h2 := (h.go g1 l1).go g2 l2
  refine hr.run h2.bk (d1.g (g2.w h.lb)) d2 k2 fun d a us H3 k3 s3 e1 e2 d3 => ?_
  exact q d j a us H3 k3 ((g1.trans g2).trans (Go.of s3)) (l2.same s3) ((g1.trans g2).free e1) e2 d3⟩
def rdCatL : PyData → PyData → (List PyData → Prop) → Prop := fun x y K => ∃ xs ys, x = .list xs ∧ y = .list ys ∧ xs.length + ys.length ≤ 100000 ∧ K (xs ++ ys)
theorem srn_cat : SRN rCat rdCatL := ⟨fun hB hx hy ⟨xs, ys, e1, e2, l, k⟩ q => by
  subst e1 e2
  obtain ⟨a, vs, rfl, _, ha, hA⟩ := hx.lst2
  obtain ⟨b, ws, rfl, _, hb, hC⟩ := hy.lst2
  have l1 := hA.len
  have l2 := hC.len
  exact ⟨a, b, vs, ws, rfl, rfl, ha, hb, Nat.le_of_lt (sz (by omega)), fun p hp => q _ p _ _ k (sm_new hp) hp upd_same (((hA.app hC).fr hp).s (sm_new hp))⟩⟩
/-! ### parts -/
abbrev DO := List Sl → Nat → (Option Int → Nat → Prop) → Prop
structure SO (t : TO) (f : DO) : Prop where
  run : ∀ {L B O : List Addr} {H : Hp} {σ : L2.St} {δ : List Sl} {n : Nat} {Q : Option Int → Hp → Prop} {K : Option Int → Nat → Prop}, Rel L B O H σ δ n → f δ n K → (∀ o m H', K o m → Go L H H' → Lfs L H' m → Q o H') → t σ H Q
def fNoPart : DO := fun _ n K => K none n
def fPart (fe : DE) : DO := fun δ n K => fe δ n fun d m => ∃ i, d = .int i ∧ K (some i) m
theorem so_none : SO tNoPart fNoPart := ⟨fun h k q => q _ _ _ k Go.refl h.lf⟩
theorem so_some {te : TE} {fe : DE} (he : SE te fe) : SO (tPart te) (fPart fe) := ⟨fun h k q => he.run h k fun d m v H1 ⟨i, e, k1⟩ g1 l1 d1 => by
  subst e
  cases d1
  exact ⟨i, rfl, q _ _ _ k1 g1 l1⟩⟩
def fSlT (fe : DE) (fl fh : DO) : DE := fun δ n K => fe δ n fun d m => fl δ m fun lo j => fh δ j fun hi k => ∃ xs, d = .tuple xs ∧ K (.tuple (cutL xs lo hi)) k
def fSlL (fe : DE) (fl fh : DO) : DI := fun δ n K => fe δ n fun d m => fl δ m fun lo j => fh δ j fun hi k => ∃ xs, d = .list xs ∧ K (cutL xs lo hi) k
theorem se_slT {te : TE} {tl th : TO} {fe : DE} {fl fh : DO} (he : SE te fe) (hl : SO tl fl) (hh : SO th fh) : SE (tSl (rSlA K) te tl th) (fSlT fe fl fh) := ⟨fun {L B O H σ δ n Q K'} h k q => he.run h k fun d m v H1 k1 g1 l1 d1 => hl.run (h.go g1 l1) k1 fun lo j H2 k2 g2 l2 => hh.run ((h.go g1 l1).go g2 l2) k2 fun hi i H3 ⟨xs, e, k3⟩ g3 l3 => by
  subst e
  have g23 := g2.trans g3
  refine slice_dt (d1.g (g23.w h.lb)) (h.bk.go (g1.trans g23)) fun u H4 s4 d4 => ?_
  exact q _ _ _ _ k3 ((g1.trans g23).trans (Go.of s4)) (l3.same s4) d4⟩
theorem sn_slL {te : TE} {tl th : TO} {fe : DE} {fl fh : DO} (he : SE te fe) (hl : SO tl fl) (hh : SO th fh) : SN (tSl (rSlL K) te tl th) (fSlL fe fl fh) := ⟨fun {L B O H σ δ n Q K'} h k q => he.run h k fun d m v H1 k1 g1 l1 d1 => hl.run (h.go g1 l1) k1 fun lo j H2 k2 g2 l2 => hh.run ((h.go g1 l1).go g2 l2) k2 fun hi i H3 ⟨xs, e, k3⟩ g3 l3 => by
  subst e
  have g23 := g2.trans g3
  obtain ⟨a, vs, rfl, _, ha, hA⟩ := (d1.g (g23.w h.lb)).lst2
  refine ⟨a, vs, rfl, SqL.of ha, fun p hp => ?_⟩
  exact q _ _ _ _ _ k3 ((g1.trans g23).trans (Go.of (sm_new hp))) (l3.same (sm_new hp)) ((g1.trans g23).free hp) upd_same (((hA.cut lo hi).fr hp).s (sm_new hp))⟩
/-! ### lists of one's own, read -/
def fIxO (i : Nat) (fb : DE) : DE := fun δ n K => ∃ xs, δ[i]? = some (.o xs) ∧ fb δ n fun y m => ∃ z d, y = .int z ∧ atI xs z = some d ∧ K d m
theorem se_ixO {i : Nat} {tb : TE} {fb : DE} (hb : SE tb fb) : SE (tOp (rIxL K) (tVar i) tb) (fIxO i fb) := ⟨fun h ⟨xs, e, k⟩ q => by
  obtain ⟨a, vs, ea, ha, hs, hA⟩ := h.oo i xs e
  refine ⟨_, ea, hb.run h k fun y m u H2 ⟨z, d, e2, e3, k2⟩ g2 l2 d2 => ?_⟩
  subst e2
  cases d2
  obtain ⟨v, f, g⟩ := atD (hA.g (g2.w h.lb)) e3
  exact ⟨a, vs, z, v, rfl, rfl, SqL.of (g2.k a _ (h.ob a ha).2 hs), f, q _ _ _ _ k2 g2 l2 g⟩⟩
def fLenO (i : Nat) : DE := fun δ n K => ∃ xs, δ[i]? = some (.o xs) ∧ K (.int xs.length) n
theorem se_lenO {i : Nat} : SE (tCB (rLenS K) (tCons (tVar i) tNil)) (fLenO i) := ⟨fun h ⟨xs, e, k⟩ q => by
  obtain ⟨a, vs, ea, ha, hs, hA⟩ := h.oo i xs e
  refine ⟨_, ea, a, vs, rfl, .inl (SqL.of hs), ?_⟩
  rw [hA.len]
  exact q _ _ _ _ k Go.refl h.lf (.int _)⟩
def fNeO (g : Bool → Bool) (i : Nat) (fb : DE) : DE := fun δ n K => ∃ xs, δ[i]? = some (.o xs) ∧ SeqAt.shaped (.list xs) = true ∧ fb δ n fun y m => SeqAt.shaped y = true ∧ K (.bool (g (PyData.eqv (.list xs) y))) m
theorem se_neO {i : Nat} {tb : TE} {fb : DE} (hb : SE tb fb) : SE (tOp (rNeD K) (tVar i) tb) (fNeO not i fb) := ⟨fun h ⟨xs, e, sh, k⟩ q => by
  obtain ⟨a, vs, ea, ha, hs, hA⟩ := h.oo i xs e
  refine ⟨_, ea, hb.run h k fun y m u H2 ⟨e2, k2⟩ g2 l2 d2 => ?_⟩
  have dx : Dt [] H2 (.ref a) (.list xs) := .lst (fun h => nomatch h) (g2.k a _ (h.ob a ha).2 hs) ((hA.g (g2.w h.lb)).sub fun _ h => nomatch h)
  exact ⟨_, _, dx.dP, d2.dP, sh, e2, q _ _ _ _ k2 g2 l2 (.bl _)⟩⟩
theorem se_eqO {i : Nat} {tb : TE} {fb : DE} (hb : SE tb fb) : SE (tOp (rEqD K) (tVar i) tb) (fNeO id i fb) := ⟨fun h ⟨xs, e, sh, k⟩ q => by
  obtain ⟨a, vs, ea, ha, hs, hA⟩ := h.oo i xs e
  refine ⟨_, ea, hb.run h k fun y m u H2 ⟨e2, k2⟩ g2 l2 d2 => ?_⟩
  have dx : Dt [] H2 (.ref a) (.list xs) := .lst (fun h => nomatch h) (g2.k a _ (h.ob a ha).2 hs) ((hA.g (g2.w h.lb)).sub fun _ h => nomatch h)
  exact ⟨_, _, dx.dP, d2.dP, sh, e2, q _ _ _ _ k2 g2 l2 (.bl _)⟩⟩
/-- a part of one's own list is a new list -/
def fSlO (i : Nat) (fl fh : DO) : DI := fun δ n K => ∃ xs, δ[i]? = some (.o xs) ∧ fl δ n fun lo j => fh δ j fun hi k => K (cutL xs lo hi) k
theorem sn_slO {i : Nat} {tl th : TO} {fl fh : DO} (hl : SO tl fl) (hh : SO th fh) : SN (tSl (rSlL K) (tVar i) tl th) (fSlO i fl fh) := ⟨fun {L B O H σ δ n Q K'} h ⟨xs, e, k⟩ q => by
  obtain ⟨a, vs, ea, ha, hs, hA⟩ := h.oo i xs e
  refine ⟨_, ea, hl.run h k fun lo j H2 k2 g2 l2 => hh.run (h.go g2 l2) k2 fun hi i H3 k3 g3 l3 => ?_⟩
  have g23 := g2.trans g3
  refine ⟨a, vs, rfl, SqL.of (g23.k a _ (h.ob a ha).2 hs), fun p hp => ?_⟩
  exact q _ _ _ _ _ k3 (g23.trans (Go.of (sm_new hp))) (l3.same (sm_new hp)) (g23.free hp) upd_same ((((hA.g (g23.w h.lb)).cut lo hi).fr hp).s (sm_new hp))⟩
/-! ### calls of what Python has -/
def rdLen : List PyData → (PyData → Prop) → Prop := fun ds K => ∃ xs, (ds = [.list xs] ∨ ds = [.tuple xs]) ∧ K (.int xs.length)
theorem sc_len : SC (rLenS K) rdLen := ⟨fun hB hA ⟨xs, e, k⟩ q => by
  rcases e with e | e <;> subst e
  · cases hA with
    | cons h1 h2 =>
      cases h2
      obtain ⟨a, vs, rfl, _, ha, hC⟩ := h1.lst2
      refine ⟨a, vs, rfl, .inl (SqL.of ha), ?_⟩
      rw [hC.len]
      exact q _ _ _ k (Same.refl _) (.int _)
  · cases hA with
    | cons h1 h2 =>
      cases h2
      obtain ⟨a, vs, rfl, _, ha, hC⟩ := h1.tupI
      refine ⟨a, vs, rfl, .inr (SqT.of ha), ?_⟩
      rw [hC.len]
      exact q _ _ _ k (Same.refl _) (.int _)⟩
def rdTup : List PyData → (PyData → Prop) → Prop := fun ds K => ∃ xs, (ds = [.list xs] ∨ ds = [.tuple xs]) ∧ K (.tuple xs)
theorem sc_tup : SC (rTupOf K) rdTup := ⟨fun hB hA ⟨xs, e, k⟩ q => by
  rcases e with e | e <;> subst e
  · cases hA with
    | cons h1 h2 =>
      cases h2
      obtain ⟨a, vs, rfl, _, ha, hC⟩ := h1.lst2
      exact ⟨a, vs, rfl, .inl ⟨SqL.of ha, fun p hp => q _ _ _ k (sm_new hp) (.tup (hB.ne hp) upd_same (hC.s (sm_new hp)))⟩⟩
  · cases hA with
    | cons h1 h2 =>
      cases h2
      have h0 := h1
      obtain ⟨a, vs, rfl, _, ha, hC⟩ := h1.tupI
      exact ⟨a, vs, rfl, .inr ⟨SqT.of ha, q _ _ _ k (Same.refl _) h0⟩⟩⟩
def rdListN : List PyData → (List PyData → Prop) → Prop := fun ds K => ∃ xs, (ds = [.list xs] ∨ ds = [.tuple xs]) ∧ K xs
theorem scn_list : SCN (rListOf K) rdListN := ⟨fun hB hA ⟨xs, e, k⟩ q => by
  rcases e with e | e <;> subst e
  · cases hA with
    | cons h1 h2 =>
      cases h2
      obtain ⟨a, vs, rfl, _, ha, hC⟩ := h1.lst2
      exact ⟨a, vs, rfl, .inl (SqL.of ha), fun p hp => q _ _ _ _ k (sm_new hp) hp upd_same ((hC.fr hp).s (sm_new hp))⟩
  · cases hA with
    | cons h1 h2 =>
      cases h2
      obtain ⟨a, vs, rfl, _, ha, hC⟩ := h1.tupI
      exact ⟨a, vs, rfl, .inr (SqT.of ha), fun p hp => q _ _ _ _ k (sm_new hp) hp upd_same ((hC.fr hp).s (sm_new hp))⟩⟩
theorem one_ints {B : List Addr} {H : Hp} {vs : List V} {ns : List Int} (h : DtA B H vs [eI ns]) : ∃ a, vs = [.ref a] ∧ H a = some (.lst (ns.map V.int)) := by
  cases h with
  | cons h1 h2 =>
    cases h2
    obtain ⟨a, rfl, _, e⟩ := h1.ints
    exact ⟨a, rfl, e⟩
def rdSum : List PyData → (PyData → Prop) → Prop := fun ds K => ∃ ns : List Int, ds = [eI ns] ∧ K (.int ns.sum)
theorem sc_sum : SC (rSum K) rdSum := ⟨fun hB hA ⟨ns, e, k⟩ q => by
  subst e
  obtain ⟨a, rfl, e⟩ := one_ints hA
  exact ⟨a, ns, rfl, SqL.of e, q _ _ _ k (Same.refl _) (.int _)⟩⟩
def rdMax : List PyData → (PyData → Prop) → Prop := fun ds K => ∃ ns : List Int, ds = [eI ns] ∧ 0 < ns.length ∧ ∀ m, m ∈ ns → (∀ y, y ∈ ns → y ≤ m) → K (.int m)
def rdMin : List PyData → (PyData → Prop) → Prop := fun ds K => ∃ ns : List Int, ds = [eI ns] ∧ 0 < ns.length ∧ ∀ m, m ∈ ns → (∀ y, y ∈ ns → m ≤ y) → K (.int m)
theorem sc_max : SC (rMax K) rdMax := ⟨fun hB hA ⟨ns, e, l, k⟩ q => by
  subst e
  obtain ⟨a, rfl, e⟩ := one_ints hA
  exact ⟨a, ns, rfl, SqL.of e, l, fun m h1 h2 => q _ _ _ (k m h1 h2) (Same.refl _) (.int _)⟩⟩
theorem sc_min : SC (rMin K) rdMin := ⟨fun hB hA ⟨ns, e, l, k⟩ q => by
  subst e
  obtain ⟨a, rfl, e⟩ := one_ints hA
  exact ⟨a, ns, rfl, SqL.of e, l, fun m h1 h2 => q _ _ _ (k m h1 h2) (Same.refl _) (.int _)⟩⟩
def rdMinP : List PyData → (PyData → Prop) → Prop := fun ds K => ∃ p ps, ds = [.list ((p :: ps).map enc)] ∧ K (enc (minP p ps))
theorem sc_minP : SC (rMinP K) rdMinP := ⟨fun hB hA ⟨p, ps, e, k⟩ q => by
  subst e
  cases hA with
  | cons h1 h2 =>
    cases h2
    obtain ⟨a, vs, rfl, _, ha, hC⟩ := h1.lst2
    exact ⟨a, vs, p, ps, rfl, SqL.of ha, hC.dP, fun i x ex ep => q _ _ _ k (Same.refl _) (hC.two ex (by rw [List.getElem?_map, ep]; rfl))⟩⟩
def rdAny (g : List Bool → Bool) : List PyData → (PyData → Prop) → Prop := fun ds K => ∃ bs : List Bool, ds = [.list (bs.map .bool)] ∧ K (.bool (g bs))
theorem sc_any : SC (rAny K) (rdAny fun bs => bs.any id) := ⟨fun hB hA ⟨bs, e, k⟩ q => by
  subst e
  cases hA with
  | cons h1 h2 =>
    cases h2
    obtain ⟨a, vs, rfl, _, ha, hC⟩ := h1.lst2
    exact ⟨a, bs, rfl, SqL.of (by rw [ha, hC.blsV]), q _ _ _ k (Same.refl _) (.bl _)⟩⟩
theorem sc_all : SC (rAll K) (rdAny fun bs => bs.all id) := ⟨fun hB hA ⟨bs, e, k⟩ q => by
  subst e
  cases hA with
  | cons h1 h2 =>
    cases h2
    obtain ⟨a, vs, rfl, _, ha, hC⟩ := h1.lst2
    exact ⟨a, bs, rfl, SqL.of (by rw [ha, hC.blsV]), q _ _ _ k (Same.refl _) (.bl _)⟩⟩
theorem sc_abs : SC (fun xs H Q => ∃ i, xs = [.int i] ∧ Q (.int (if i < 0 then -i else i)) H) (fun ds K => ∃ i, ds = [.int i] ∧ K (.int (if i < 0 then -i else i))) := ⟨fun hB hA ⟨i, e, k⟩ q => by
  subst e
  cases hA with
  | cons h1 h2 =>
    cases h2
    cases h1
    exact ⟨i, rfl, q _ _ _ k (Same.refl _) (.int _)⟩⟩
theorem sc_int2 {g : Int → Int → Int} : SC (fun xs H Q => ∃ i j, xs = [.int i, .int j] ∧ Q (.int (g i j)) H) (fun ds K => ∃ i j, ds = [.int i, .int j] ∧ K (.int (g i j))) := ⟨fun hB hA ⟨i, j, e, k⟩ q => by
  subst e
  cases hA with
  | cons h1 h2 =>
    cases h2 with
    | cons h2 h3 =>
      cases h3
      cases h1
      cases h2
      exact ⟨i, j, rfl, q _ _ _ k (Same.refl _) (.int _)⟩⟩
theorem sc_int1 : SC (fun xs H Q => (∃ i, xs = [.int i] ∧ Q (.int i) H) ∨ ∃ k, xs = [.bl k] ∧ Q (.int (if k then 1 else 0)) H) (fun ds K => (∃ i, ds = [.int i] ∧ K (.int i)) ∨ ∃ b : Bool, ds = [.bool b] ∧ K (.int (if b then 1 else 0))) := ⟨fun hB hA k q => by
  rcases k with ⟨i, e, k⟩ | ⟨i, e, k⟩ <;> subst e
  · cases hA with
    | cons h1 h2 =>
      cases h2
      cases h1
      exact .inl ⟨i, rfl, q _ _ _ k (Same.refl _) (.int _)⟩
  · cases hA with
    | cons h1 h2 =>
      cases h2
      cases h1
      exact .inr ⟨i, rfl, q _ _ _ k (Same.refl _) (.int _)⟩⟩
def fIsi (n : String) (fe : DE) : DE := fun δ k K => fe δ k fun d m => ∃ b, kitB (tyn d) n = some b ∧ K (.bool b) m
theorem se_isi {n : String} {te : TE} {fe : DE} (he : SE te fe) : SE (tCB (rIsi K) (tCons te (tCons (tC (.ty n)) tNil))) (fIsi n fe) := ⟨fun h k q => he.run h k fun d m v H1 ⟨b, e, k1⟩ g1 l1 d1 =>
  ⟨v, .ty n, _, _, b, rfl, .ty n, d1.ty, kit_ty e, q _ _ _ _ k1 g1 l1 (.bl b)⟩⟩
def rdSortI : List PyData → (List PyData → Prop) → Prop := fun ds K => ∃ ns : List Int, ds = [eI ns] ∧ ∀ ks : List Int, ks.Perm ns → ks.Pairwise (· ≤ ·) → K (ks.map .int)
theorem scn_sortI : SCN (rSortedI K) rdSortI := ⟨fun hB hA ⟨ns, e, k⟩ q => by
  subst e
  obtain ⟨a, rfl, e⟩ := one_ints hA
  exact ⟨a, ns, rfl, SqL.of e, fun ks p h1 h2 hp => q _ _ _ _ (k ks h1 h2) (sm_new hp) hp upd_same (DtA.ints ks)⟩⟩
def rdSortD : List PyData → (List PyData → Prop) → Prop := fun ds K => ∃ (β : Type) (en : β → PyData) (bs : List β), ds = [.list (bs.map en)] ∧ PySem.W.AllAlike (bs.map en) ∧ PySem.W.Sortable (bs.map en) ∧ bs.length ≤ 10000 ∧ (∀ b ∈ bs, (en b).depth ≤ 50) ∧ K ((bs.mergeSort (PySem.W.dataLe false en)).map en)
theorem scn_sortD : SCN (rSortedD K) rdSortD := ⟨fun hB hA ⟨β, en, bs, e, h1, h2, h3, h4, k⟩ q => by
  subst e
  cases hA with
  | cons g1 g2 =>
    cases g2
    obtain ⟨a, vs, rfl, _, ha, hC⟩ := g1.lst2
    exact ⟨a, vs, β, en, bs, rfl, SqL.of ha, hC.dP, h1, h2, h3, h4, fun ys p he hp => q _ _ _ _ k (sm_new hp) hp upd_same (((each_mem he hC).fr hp).s (sm_new hp))⟩⟩
def fRg1 (fe : DE) : DI := fun δ n K => fe δ n fun d m => ∃ z, d = .int z ∧ RgOk 0 z ∧ K ((List.range z.toNat).map fun i => .int (i : Nat)) m
theorem sn_rg1 {te : TE} {fe : DE} (he : SE te fe) : SN (tLstRg (tRg1 te)) (fRg1 fe) := ⟨fun h k q => he.run h k fun d m v H1 ⟨z, e, hz, k1⟩ g1 l1 d1 => by
  subst e
  cases d1
  refine ⟨z, rfl, hz, fun p hp => q _ _ _ _ _ k1 (g1.trans (Go.of (sm_new hp))) (l1.same (sm_new hp)) (g1.free hp) upd_same ?_⟩
  have e : rgV 0 z = ((List.range z.toNat).map fun i => ((i : Nat) : Int)).map V.int := by
    unfold rgV
    rw [List.map_map, Int.sub_zero]
    refine List.map_congr_left fun i _ => ?_
    show V.int (0 + (i : Int)) = V.int (i : Int)
    rw [Int.zero_add]
  have e2 : ((List.range z.toNat).map fun i => PyData.int ((i : Nat) : Int)) = ((List.range z.toNat).map fun i => ((i : Nat) : Int)).map PyData.int := by rw [List.map_map]; rfl
  rw [e, e2]
  exact DtA.ints _⟩
end
end Z

set_option Elab.async false
set_option linter.all false
set_option maxRecDepth 100000
namespace Z
open PySem PySem.Spec PyProof.Rows L2
variable [TabCtx]
/-! ### zip of three lists -/
def It3L (K : PySem.W.Frag) (a b c : Addr) : It where
  go := fun i H => ∃ (xs ys ts : List V) (x y t : V), (SqL K H a xs ∧ SqL K H b ys ∧ SqL K H c ts) ∧ xs[i]? = some x ∧ ys[i]? = some y ∧ ts[i]? = some t
  yld := fun i H v H' => ∃ (T : Addr) (x y t : V), v = .ref T ∧ H T = none ∧ H' = upd H T (.tup [x, y, t]) ∧ (∀ l, SqL K H a l → l[i]? = some x) ∧ (∀ l, SqL K H b l → l[i]? = some y) ∧ ∀ l, SqL K H c l → l[i]? = some t
  stop := fun i H => ∃ xs ys ts : List V, (SqL K H a xs ∧ SqL K H b ys ∧ SqL K H c ts) ∧ i ≤ xs.length ∧ i ≤ ys.length ∧ i ≤ ts.length ∧ (i = xs.length ∨ i = ys.length ∨ i = ts.length)
def own3L (z TI TO i1 i2 i3 : Addr) : List Addr := [z, TI, TO, i1, i2, i3]
def at3L (a b c z TI TO i1 i2 i3 : Addr) (i : Nat) (h : Heap) : Prop :=
  IsZip h z TI TO .none ∧ IsTupOf3 h TI (.ref i1) (.ref i2) (.ref i3) ∧ (∃ x y t, IsTupOf3 h TO x y t) ∧ h.IsListIter i1 a i ∧ h.IsListIter i2 b i ∧ h.IsListIter i3 c i
theorem sixL {z TI TO i1 i2 i3 q : Addr} (h : q ∈ own3L z TI TO i1 i2 i3) : q = z ∨ q = TI ∨ q = TO ∨ q = i1 ∨ q = i2 ∨ q = i3 := by
  simpa [own3L] using h
theorem ne_itI3 {h : Heap} {t it l : Addr} {items : Array Value} {i : Nat} (p : h.IsList t items) (q : h.IsListIter it l i) : t ≠ it := fun e => by
  obtain ⟨o, ho, hcl, _⟩ := p
  obtain ⟨o', ho', hcl', _⟩ := q
  rw [e, ho'] at ho
  have eo := Option.some.inj ho
  rw [eo, hcl] at hcl'
  exact absurd (Value.type.inj hcl') (by decide)
set_option maxHeartbeats 1000000 in
theorem turn3L {P : Program} {w : World} {K : PySem.W.Frag} {elts : List Expr} {kk : Nat} {tpos : Pos} {a b c z TI TO i1 i2 i3 : Addr} (D : ZipSep3 z TI TO i1 i2 i3 [i1, a] [i2, b] [i3, c]) :
    Turn P w K (.Tuple elts kk tpos) (It3L K a b c) (own3L z TI TO i1 i2 i3) z (at3L a b c z TI TO i1 i2 i3) := by
  refine ⟨by simp [own3L], fun i h st q hq => ?_, fun i h h' st k => ?_, ?_, ?_, fun A i s Q E st h => wpAny_pyIter_zip st.1 h⟩
  · obtain ⟨hz, hTI, ⟨x, y, t, hTO⟩, ⟨o1, e1, _, d1⟩, ⟨o2, e2, _, d2⟩, ⟨o3, e3, _, d3⟩⟩ := st
    rcases sixL hq with rfl | rfl | rfl | rfl | rfl | rfl
    · exact ⟨_, hz, fun v q => nomatch q⟩
    · exact ⟨_, hTI, fun v q => nomatch q⟩
    · exact ⟨_, hTO, fun v q => nomatch q⟩
    · exact ⟨o1, e1, fun v q => by rw [d1] at q; cases q⟩
    · exact ⟨o2, e2, fun v q => by rw [d2] at q; cases q⟩
    · exact ⟨o3, e3, fun v q => by rw [d3] at q; cases q⟩
  · obtain ⟨hz, hTI, ⟨x, y, t, hTO⟩, h1, h2, h3⟩ := st
    exact ⟨k z (by simp [own3L]) _ hz, k TI (by simp [own3L]) _ hTI, ⟨x, y, t, k TO (by simp [own3L]) _ hTO⟩, h1.at fun o q => k i1 (by simp [own3L]) o q, h2.at fun o q => k i2 (by simp [own3L]) o q, h3.at fun o q => k i3 (by simp [own3L]) o q⟩
  · intro X hP hw hK hc i pins s σ H E I hf st hg
    subst hP hw hK
    obtain ⟨hz, hTI, ⟨x0, y0, t0, hTO⟩, h1, h2, h3⟩ := st
    obtain ⟨xs, ys, ts, x, y, t, ⟨qx, qy, qt⟩, fx, fy, ft⟩ := hg
    obtain ⟨js1, r1, pl1, _⟩ := I.list qx
    have p1 := pl1.isList
    obtain ⟨js2, r2, pl2, _⟩ := I.list qy
    have p2 := pl2.isList
    obtain ⟨js3, r3, pl3, _⟩ := I.list qt
    have p3 := pl3.isList
    obtain ⟨u1, f1, m1⟩ := r1.get fx
    obtain ⟨u2, f2, m2⟩ := r2.get fy
    obtain ⟨u3, f3, m3⟩ := r3.get ft
    have lz : z < s.heap.objs.size := Heap.lt_size hz
    have hd := I.ok.hd hc
    have n1 : a ≠ i1 := ne_itI3 p1 h1
    have n2 : b ≠ i2 := ne_itI3 p2 h2
    have n3 : c ≠ i3 := ne_itI3 p3 h3
    have k1 : i < js1.toArray.size := by have := (List.getElem?_eq_some_iff.mp f1).1; simpa using this
    have k2 : i < js2.toArray.size := by have := (List.getElem?_eq_some_iff.mp f2).1; simpa using this
    have k3 : i < js3.toArray.size := by have := (List.getElem?_eq_some_iff.mp f3).1; simpa using this
    refine wpAny_pyNext_zipD3_item D (Draws.list (A := X.A.in1) hd i1 a n1 js1.toArray) (Draws.list (A := X.A.in1) hd i2 b n2 js2.toArray) (Draws.list (A := X.A.in1) hd i3 c n3 js3.toArray) hz hTI hTO ⟨h1, p1⟩ ⟨h2, p2⟩ ⟨h3, p3⟩ k1 k2 k3 fun x1 x2 x3 h' tk e1 e2 e3 z' TO' st1 st2 st3 hT hsz hk => ?_
    have w1 : x1 = u1 := Option.some.inj (e1.symm.trans (by simpa using f1))
    have w2 : x2 = u2 := Option.some.inj (e2.symm.trans (by simpa using f2))
    have w3 : x3 = u3 := Option.some.inj (e3.symm.trans (by simpa using f3))
    subst w1 w2 w3
    refine ⟨_, rfl, wpAny_letOwnedTupleGo_zip (s := { s with heap := h', toks := tk }) z' fun h'' z'' sb => ?_⟩
    have up : ∀ q o, q ≠ z → h'.get? q = some o → h''.get? q = some o := fun q o n e => (sb.2 q n).trans e
    have hT2 := up _ _ (Nat.ne_of_gt lz) hT
    have fresh : H s.heap.objs.size = none := I.hok.fresh (Nat.le_refl _)
    have new : ObjOk X.prog X.w (upd H s.heap.objs.size (.tup [x, y, t])) h'' s.heap.objs.size (.tup [x, y, t]) :=
      ⟨by show 3 ≤ sizeLine; decide, [x1, x2, x3], .cons m1 (.cons m2 (.cons m3 .nil)), ⟨_, hT2, rfl, _, rfl⟩⟩
    have kp : ∀ q o, q ∉ own3L z TI TO i1 i2 i3 → s.heap.get? q = some o → h''.get? q = some o := fun q o nq e => by
      have nz : q ≠ z := fun y => nq (by simp [own3L, y])
      refine up q o nz (hk q o nz (fun y => nq (by simp [own3L, y])) (fun y => nq (by simp [own3L, y])) (fun y => nq (by simp [own3L, y])) (fun y => nq (by simp [own3L, y])) e)
    have zi : ∀ {j : Addr} {fp : List Addr}, j ∈ fp → z ∉ fp → j ≠ z := fun hj hz e => hz (by rw [← e]; exact hj)
    refine ⟨.ref s.heap.objs.size, _, I.turnedNew (t' := tk) (ch := own3L z TI TO i1 i2 i3) kp hf (Nat.le_refl _) new, rfl, ⟨_, x, y, t, rfl, fresh, rfl, fun l hl => by rw [I.list_inj hl qx]; exact fx, fun l hl => by rw [I.list_inj hl qy]; exact fy, fun l hl => by rw [I.list_inj hl qt]; exact ft⟩, ⟨z'', ?_, ⟨x1, x2, x3, up _ _ D.TOz TO'⟩, ?_, ?_, ?_⟩, fun q hq => ?_⟩
    · exact up _ _ D.TIz (hk _ _ D.TIz D.TITO D.TIi1 D.TIi2 D.TIi3 hTI)
    · exact st1.1.at fun o e => up _ _ (zi D.mem1 D.zf1) e
    · exact st2.1.at fun o e => up _ _ (zi D.mem2 D.zf2) e
    · exact st3.1.at fun o e => up _ _ (zi D.mem3 D.zf3) e
    · have lq : q < s.heap.objs.size := by
        rcases sixL hq with rfl | rfl | rfl | rfl | rfl | rfl
        · exact lz
        · exact Heap.lt_size hTI
        · exact Heap.lt_size hTO
        · obtain ⟨_, e, _⟩ := h1; exact Heap.lt_size e
        · obtain ⟨_, e, _⟩ := h2; exact Heap.lt_size e
        · obtain ⟨_, e, _⟩ := h3; exact Heap.lt_size e
      rw [upd_ne (Nat.ne_of_lt lq)]
      exact (hf q hq).1
  · intro X hP hw hK hc i pins s σ H E I hf st hg
    subst hP hw hK
    obtain ⟨hz, hTI, ⟨x0, y0, t0, hTO⟩, h1, h2, h3⟩ := st
    obtain ⟨xs, ys, ts, ⟨qx, qy, qt⟩, b1, b2, b3, hend⟩ := hg
    obtain ⟨js1, r1, pl1, _⟩ := I.list qx
    have p1 := pl1.isList
    obtain ⟨js2, r2, pl2, _⟩ := I.list qy
    have p2 := pl2.isList
    obtain ⟨js3, r3, pl3, _⟩ := I.list qt
    have p3 := pl3.isList
    have hd := I.ok.hd hc
    have l1 := r1.length
    have l2 := r2.length
    have l3 := r3.length
    have n1 : a ≠ i1 := ne_itI3 p1 h1
    have n2 : b ≠ i2 := ne_itI3 p2 h2
    have n3 : c ≠ i3 := ne_itI3 p3 h3
    refine wpAny_pyNext_zipD3_end D (Draws.list (A := X.A.in1) hd i1 a n1 js1.toArray) (Draws.list (A := X.A.in1) hd i2 b n2 js2.toArray) (Draws.list (A := X.A.in1) hd i3 c n3 js3.toArray) hz hTI hTO ⟨h1, p1⟩ ⟨h2, p2⟩ ⟨h3, p3⟩ (by simp; omega) (by simp; omega) (by simp; omega) (by simp; omega) fun h' tk hk => ?_
    exact ⟨rfl, I.turnedL (t' := tk) (ch := own3L z TI TO i1 i2 i3) (fun q o nq e => hk q o (fun y => nq (by simp [own3L, y])) (fun y => nq (by simp [own3L, y])) (fun y => nq (by simp [own3L, y])) (fun y => nq (by simp [own3L, y])) (fun y => nq (by simp [own3L, y])) e) hf⟩
set_option maxHeartbeats 400000
def iZip3L (K : PySem.W.Frag) (ta : TA) : TI := fun σ H R => ta σ H fun vs H1 => ∃ a b c xs ys ts, vs = [.ref a, .ref b, .ref c] ∧ SqL K H1 a xs ∧ SqL K H1 b ys ∧ SqL K H1 c ts ∧ R (It3L K a b c) H1
theorem own_leL {N y : Nat} (hy : y ∈ own3L (N + 5) (N + 3) (N + 4) N (N + 1) (N + 2)) : N ≤ y := by
  rcases sixL hy with z | z | z | z | z | z <;> rw [z]
  · exact Nat.le_add_right _ _
  · exact Nat.le_add_right _ _
  · exact Nat.le_add_right _ _
  · exact Nat.le_refl _
  · exact Nat.le_add_right _ _
  · exact Nat.le_add_right _ _
theorem zip3_endL {X : Cx} {pins : List (Addr × Obj)} {σ : L2.St} {H1 : Hp} {s1 : Shared} {R : It → Hp → Prop} {a b c : Addr} {xs ys ts : List V} {elts : List Expr} {kk : Nat} {tpos : Pos} (I1 : Inv X pins σ H1 s1) (qx : SqL X.K H1 a xs) (qy : SqL X.K H1 b ys) (qt : SqL X.K H1 c ts) (q : R (It3L X.K a b c) H1) :
    wpAny (model X.prog X.w) X.A (call (.type "zip") [.ref a, .ref b, .ref c]) (fun v s2 => wpAny (model X.prog X.w) X.A (pyIter v) (PIE X pins σ (.Tuple elts kk tpos) R) X.xe s2) X.xe s1 := by
  obtain ⟨js1, m1, pl1, _⟩ := I1.list qx
  have p1 := pl1.isList
  obtain ⟨js2, m2, pl2, _⟩ := I1.list qy
  have p2 := pl2.isList
  obtain ⟨js3, m3, pl3, _⟩ := I1.list qt
  have p3 := pl3.isList
  have la : a < s1.heap.objs.size := by obtain ⟨_, o, _⟩ := p1; exact Heap.lt_size o
  have lb : b < s1.heap.objs.size := by obtain ⟨_, o, _⟩ := p2; exact Heap.lt_size o
  have lc : c < s1.heap.objs.size := by obtain ⟨_, o, _⟩ := p3; exact Heap.lt_size o
  refine zip_begins3 (begins_list a js1.toArray) (begins_list b js2.toArray) (begins_list c js3.toArray) p1 p2 p3 fun h' hz hTI hTO g1 g2 g3 hsz hk => wpAny_pyIter_zip hz ?_
  have one : ∀ {x : Addr}, x < s1.heap.objs.size → ∀ y ∈ [x], y < s1.heap.objs.size := fun hx y hy => by rw [List.mem_singleton.mp hy]; exact hx
  have I2 : Inv X pins σ H1 { s1 with heap := h' } := I1.kept (t' := s1.toks) hk
  have fr : ∀ y, s1.heap.objs.size ≤ y → FpOk X pins H1 y := fun y hle => I1.fpOk hle (I1.hok.fresh hle)
  have sp := zip_sep3 (one la) (one lb) (one lc)
  generalize s1.heap.objs.size = N at *
  exact ⟨N + 5, own3L (N + 5) (N + 3) (N + 4) N (N + 1) (N + 2), at3L a b c (N + 5) (N + 3) (N + 4) N (N + 1) (N + 2), It3L X.K a b c, H1, rfl, I2, turn3L sp, ⟨hz, hTI, ⟨_, _, _, hTO⟩, ⟨_, g1, rfl, rfl⟩, ⟨_, g2, rfl, rfl⟩, ⟨_, g3, rfl, rfl⟩⟩, fun y hy => fr y (own_leL hy), q⟩
theorem pi_zip3L (K : PySem.W.Frag) {X : Cx} {e e2 e3 : Expr} {ta : TA} {p pos tpos : Pos} {elts : List Expr} {kk : Nat} (hg : Gl X "zip") (hm : X.mg "zip" = none) (ha : PA X [e, e2, e3] ta)
    (hs : starEach [e, e2, e3] X.env = (false, eval e X.env) :: starEach [e2, e3] X.env := by rfl) (hpl : (backTo pos (starEach [e2, e3] X.env)).any (·.1) = false := by rfl) (hK : X.K = K := by rfl) :
    PI X (.Tuple elts kk tpos) (.Call (.Name "zip" p) [e, e2, e3] [] pos) (iZip3L K ta) := by
  subst hK
  refine ⟨fun pins s σ H R I h => ?_⟩
  refine Call_ (ld_blt I hg hm PyProof.Rows.boot_zip (PyProof.Rows.callWith_type1 (thn (ha.run pos pins s σ H _ I h) fun us s1 ⟨vs, H1, I1, r1, q1⟩ => ?_) hs hpl))
  obtain ⟨a, b, c, xs, ys, ts, rfl, qx, qy, qt, q⟩ := q1
  obtain ⟨u1, us, rfl, ra, r1⟩ : ∃ u1 vs', us = u1 :: vs' ∧ RelV (.ref a) u1 ∧ Vals [.ref b, .ref c] vs' := by
    cases r1 with
    | cons x y => exact ⟨_, _, rfl, x, y⟩
  obtain ⟨u2, us, rfl, rb, r1⟩ : ∃ u1 vs', us = u1 :: vs' ∧ RelV (.ref b) u1 ∧ Vals [.ref c] vs' := by
    cases r1 with
    | cons x y => exact ⟨_, _, rfl, x, y⟩
  obtain ⟨u3, rfl, rc⟩ := vals1 r1
  cases (show u1 = Value.ref a from ra)
  cases (show u2 = Value.ref b from rb)
  cases (show u3 = Value.ref c from rc)
  exact zip3_endL I1 qx qy qt q
def YTriL (xs ys ts : List V) : Nat → Hp → V → Hp → Prop := fun i H v H' => ∃ T x y t, v = .ref T ∧ H T = none ∧ H' = upd H T (.tup [x, y, t]) ∧ xs[i]? = some x ∧ ys[i]? = some y ∧ ts[i]? = some t
theorem walk_zip3L {K : PySem.W.Frag} {a b c : Addr} {xs ys ts : List V} (h1 : ys.length = xs.length) (h2 : ts.length = xs.length) : Walk (It3L K a b c) xs.length (fun H => SqL K H a xs ∧ SqL K H b ys ∧ SqL K H c ts) (YTriL xs ys ts) := by
  refine ⟨fun i H hi q => ⟨xs, ys, ts, xs[i], ys[i]'(by omega), ts[i]'(by omega), q, by simp [hi], by simp, by simp⟩, fun H q => ⟨xs, ys, ts, q, by omega, by omega, by omega, .inl rfl⟩, fun i H v H' _ q y => ?_⟩
  obtain ⟨T, x, z, t, e1, e2, e3, e4, e5, e6⟩ := y
  exact ⟨T, x, z, t, e1, e2, e3, e4 xs q.1, e5 ys q.2.1, e6 ts q.2.2⟩
end Z

set_option Elab.async false
set_option linter.all false
set_option maxRecDepth 100000
namespace Z
open PySem PySem.Spec PyProof.Rows L2
variable [TabCtx]
/-! ### great numbers -/
def CPowW (i j : Int) : Prop := 0 ≤ j ∧ j ≤ 1000 ∧ i.natAbs.log2 < 100000
theorem op_powW {X : Cx} : OpR X (binaryOp .Pow) (rI CPowW fun i j => .int (i ^ j.toNat)) := opI fun i j _ _ _ _ _ hc q => by
  refine pow_int hc.1 ?_ q
  have b : Builtin.Int.intBits i ≤ i.natAbs.log2 + 1 := by
    unfold Builtin.Int.intBits
    split <;> omega
  have h1 := hc.1
  have h2 := hc.2.1
  have h3 := hc.2.2
  have h4 : (Builtin.Int.intBits i : Int) ≤ 100000 := by omega
  have h5 : (Builtin.Int.intBits i : Int) * j ≤ 100000 * 1000 := Int.mul_le_mul h4 h2 h1 (by decide)
  exact Int.le_trans h5 (by decide)
def wIn (ns : List Int) : Prop := ∀ x ∈ ns, x.natAbs < 2 ^ 2000
theorem wIn.sub {x y : Int} (hx : x.natAbs < 2 ^ 2000) (hy : y.natAbs < 2 ^ 2000) : (x - y).natAbs < 2 ^ 2001 := by
  rw [Nat.pow_succ 2 2000]
  generalize 2 ^ 2000 = M at *
  omega
theorem powW {x y : Int} (hx : x.natAbs < 2 ^ 2000) (hy : y.natAbs < 2 ^ 2000) : CPowW (x - y) 2 := ⟨by decide, by decide, by
  have := PySem.Flt.log2_lt_of (by decide) (wIn.sub hx hy)
  omega⟩
theorem mulW {x y : Int} (hx : x.natAbs < 2 ^ 2000) (hy : y.natAbs < 2 ^ 2000) : CMulW (x - y) (x - y) := wide_mul (wIn.sub hx hy) (wIn.sub hx hy) (by decide) (by decide) (by decide)
/-! ### a list of lists that is changed -/
structure Gr (B : List Addr) (H : Hp) (wa : Addr) (ras : List Addr) (W : List (List PyData)) : Prop where
  a : H wa = some (.lst (ras.map V.ref))
  nw : wa ∉ B
  nd : (wa :: ras).Nodup
  nb : ∀ r ∈ ras, r ∉ B
  l : ras.length = W.length
  r : ∀ (i : Nat) (ra : Addr) (ds : List PyData), ras[i]? = some ra → W[i]? = some ds → ∃ vs, H ra = some (.lst vs) ∧ DtA (wa :: ras ++ B) H vs ds
theorem Gr.s {B : List Addr} {H H' : Hp} {wa : Addr} {ras : List Addr} {W : List (List PyData)} (g : Gr B H wa ras W) (s : Same H H') : Gr B H' wa ras W := ⟨s _ _ g.a, g.nw, g.nd, g.nb, g.l, fun i ra ds h1 h2 => by
  obtain ⟨vs, e, d⟩ := g.r i ra ds h1 h2
  exact ⟨vs, s _ _ e, d.s s⟩⟩
/-- what else is changed lies in B -/
theorem Gr.g {B : List Addr} {H H' : Hp} {wa : Addr} {ras : List Addr} {W : List (List PyData)} (g : Gr B H wa ras W) (s : Go B H H') : Gr B H' wa ras W := ⟨s.k _ _ g.nw g.a, g.nw, g.nd, g.nb, g.l, fun i ra ds h1 h2 => by
  obtain ⟨vs, e, d⟩ := g.r i ra ds h1 h2
  exact ⟨vs, s.k _ _ (g.nb ra (List.mem_of_getElem? h1)) e, d.g (s.w fun a h => List.mem_append_right _ h)⟩⟩
theorem DtA.put {B : List Addr} {H : Hp} {v : V} {d : PyData} (h : Dt B H v d) : ∀ {vs : List V} {ds : List PyData} (j : Nat), DtA B H vs ds → DtA B H (vs.set j v) (ds.set j d)
  | _, _, _, .nil => .nil
  | _, _, 0, .cons _ h2 => .cons h h2
  | _, _, j + 1, .cons h1 h2 => .cons h1 (DtA.put h j h2)
/-- one thing put in -/
theorem Gr.set {B : List Addr} {H : Hp} {wa : Addr} {ras : List Addr} {W : List (List PyData)} (g : Gr B H wa ras W) {i j : Nat} {ra : Addr} {ds : List PyData} {vs : List V} {v : V} {d : PyData} (h1 : ras[i]? = some ra) (h2 : W[i]? = some ds) (h3 : H ra = some (.lst vs)) (hd : Dt (wa :: ras ++ B) H v d) :
    Gr B (upd H ra (.lst (vs.set j v))) wa ras (W.set i (ds.set j d)) := by
  have mr := List.mem_of_getElem? h1
  have nwr : wa ≠ ra := fun z => (List.nodup_cons.mp g.nd).1 (z ▸ mr)
  have gm : Go (wa :: ras ++ B) H (upd H ra (.lst (vs.set j v))) := Go.refl.at (List.mem_append_left _ (List.mem_cons_of_mem _ mr))
  refine ⟨by rw [upd_ne nwr]; exact g.a, g.nw, g.nd, g.nb, by rw [List.length_set]; exact g.l, fun k rb es k1 k2 => ?_⟩
  by_cases c : k = i
  · subst c
    rw [h1] at k1
    cases k1
    have hk : k < W.length := (List.getElem?_eq_some_iff.mp h2).1
    rw [List.getElem?_set_self hk] at k2
    cases k2
    obtain ⟨us, e, dd⟩ := g.r k ra ds h1 h2
    rw [h3] at e
    cases e
    exact ⟨_, upd_same, DtA.put (hd.g gm) j (dd.g gm)⟩
  · rw [List.getElem?_set_ne (Ne.symm c)] at k2
    obtain ⟨us, e, dd⟩ := g.r k rb es k1 k2
    have nrb : rb ≠ ra := fun z => by
      subst z
      exact c ((List.getElem?_inj (List.getElem?_eq_some_iff.mp k1).1 (List.nodup_cons.mp g.nd).2).mp (k1.trans h1.symm))
    exact ⟨us, by rw [upd_ne nrb]; exact e, dd.g gm⟩
end Z

set_option Elab.async false
set_option linter.all false
set_option maxRecDepth 100000
set_option maxHeartbeats 4000000
namespace Z
open PySem PySem.Spec PyProof.Rows L2
variable [TabCtx]
/-! ### a tuple once -/
theorem tuple_mul1 (l : Addr) (items : Array Value) (n : Nat) (dd : Option Addr) (sl : Array (Option Value)) (u : Tok) :
    Meets (Builtin.«tuple.__mul__» ⟨[.ref l, .int 1 u], []⟩) (fun _ R s => s.heap.get? l = some { cls := .type "tuple", dict := dd, data := .seq items n, slots := sl } ∧
      R (.ok (.ret (Value.ref l))) s) :=
  .of_wp fun prog w A R s h => by
    obtain ⟨hp, g, d, tk, os⟩ := s
    obtain ⟨hl, h⟩ := h
    have f1 := AutoSeq1.idx_int
    have c0 : (decide ((1 : Int) < -(2 ^ 63)) || decide ((1 : Int) ≥ 2 ^ 63)) = false := by decide
    have c1 : (items.isEmpty || (1 : Int) == 1) = true := by simp
    wp_walk using wpAny_loadPart' hl
    repeat (first
      | (refine wpAny_ite_false (decide_eq_false (by rw [c0]; exact Bool.false_ne_true)) ?_; wp_walk using wpAny_loadPart' hl)
      | (refine wpAny_ite_true (decide_eq_true (by rw [c1])) ?_; wp_walk using wpAny_loadPart' hl))
    exact ⟨_, rfl, h⟩
def rRepTT (K : PySem.W.Frag) : R2 := fun x y H Q => ∃ l k xs, x = .ref l ∧ y = .int k ∧ SqT K H l xs ∧ xs ≠ [] ∧ 1 ≤ k ∧ k ≤ 1000 ∧ xs.length ≤ 1000 ∧ (k = 1 → Q (.ref l) H) ∧ (2 ≤ k → ∀ p, H p = none → Q (.ref p) (upd H p (.tup (List.replicate k.toNat xs).flatten)))
theorem op_repTT {X : Cx} : OpR X (binaryOp .Mult) (rRepTT X.K) := by
  intro pins s σ H x y v u Q I rx ry h
  obtain ⟨l, k, xs, ex, ey, hT, hne, h1, h2, hz, q1, q2⟩ := h
  by_cases c : k = 1
  · subst c
    subst ex ey
    have q := q1 rfl
    cases rx
    obtain ⟨t, rfl⟩ := ry
    obtain ⟨its, r, ⟨⟨cls, dd, data, sl⟩, ho, hc, n, hd⟩, hs⟩ := I.tuple hT
    simp only at hc hd
    subst hc hd
    refine wpAny_binaryOp_repeat_ref (T := "tuple") (U := "int") (by decide) ⟨_, ho, rfl⟩ (fun s' => typeIs_int s' 1 t) noFill_tuple_mul F.fills_int_mul F.slot_int_rmul repeat_tuple F.slot_int_index.lookup
      (call_meets F.slot_int_rmul (typeIs_int s 1 t) F.entry_int_rmul (F.args_int_rmul_2 _ _) (int_rmul_tuple 1 t l its.toArray n dd sl)
        ⟨ho, rfl, ⟨_, ho, rfl⟩, call_meets F.slot_tuple_mul ⟨_, ho, rfl⟩ F.entry_tuple_mul (F.args_tuple_mul_2 _ _) (tuple_mul1 l its.toArray n dd sl t) ⟨ho, ?_⟩⟩)
    exact ⟨.ref l, H, I, rfl, q⟩
  · exact op_repT pins s σ H x y v u Q I rx ry ⟨l, k, xs, ex, ey, hT, hne, by omega, h2, hz, q2 (by omega)⟩
end Z

set_option Elab.async false
set_option linter.all false
set_option maxRecDepth 100000
set_option maxHeartbeats 1000000
namespace Z
open PySem PySem.Spec PyProof.Rows L2
variable [TabCtx]
/-! ### enumerate(xs, start=k) -/
theorem draws_shift {prog : Program} {w : World} {A : Around} {it : Addr} {fp : List Addr} {n : Nat} {P : Nat → Value → Prop} {St : Nat → Heap → Prop} (D : Draws prog w A it fp n P St) (k : Nat) : Draws prog w A it fp (k + n) (fun i v => P (i - k) v) (fun i h => k ≤ i ∧ St (i - k) h) where
  live := fun _ _ st => D.live _ _ st.2
  frame := fun _ _ _ st hk => ⟨st.1, D.frame _ _ _ st.2 hk⟩
  item := fun i s Q E hi st hQ => D.item (i - k) s Q E (by have := st.1; omega) st.2 fun x h' tk p st' sb => hQ x h' tk p ⟨by have := st.1; omega, by
    have := st.1
    rw [show i + 1 - k = i - k + 1 by omega]
    exact st'⟩ sb
  done := fun s Q E st hE => D.done s Q E (by
    have := st.2
    rw [show k + n - k = n by omega] at this
    exact this) hE
def IteS (K : PySem.W.Frag) (a : Addr) (k : Nat) : It :=
  ⟨fun i H => ∃ (xs : List V) (x : V), SqL K H a xs ∧ xs[i]? = some x, fun i H v H' => ∃ T x, v = .ref T ∧ H T = none ∧ H' = upd H T (.tup [.int ((k + i : Nat) : Int), x]) ∧ ∀ xs, SqL K H a xs → xs[i]? = some x, fun i H => ∃ xs : List V, SqL K H a xs ∧ xs.length = i⟩
theorem ne_itLE {h : Heap} {a it l : Addr} {items : Array Value} {i : Nat} (p : h.IsList a items) (q : h.IsListIter it l i) : a ≠ it := fun e => by
  subst e
  obtain ⟨o, ho, hc, _⟩ := p
  obtain ⟨o2, ho2, hc2, _⟩ := q
  rw [ho] at ho2
  cases ho2
  rw [hc] at hc2
  exact absurd hc2 (by decide)
theorem turn_enumS {P : Program} {w : World} {K : PySem.W.Frag} {elts : List Expr} {kk k : Nat} {tpos : Pos} {a e it : Addr} (hea : e ≠ a) (hne : e ≠ it) :
    Turn P w K (.Tuple elts kk tpos) (IteS K a k) [e, it] e (fun i h => (∃ old, IsEnum h e it ((k + i : Nat) : Int) old) ∧ h.IsListIter it a i) := by
  refine ⟨by simp, fun i h st b hb => ?_, fun i h h' st k => ?_, ?_, ?_, fun A i s Q E st h => ?_⟩
  · obtain ⟨⟨old, he⟩, ⟨o, ho, hc, hd⟩⟩ := st
    have e' : b = e ∨ b = it := by simpa using hb
    rcases e' with z | z
    · rw [z]; exact ⟨_, he, fun v q => nomatch q⟩
    · rw [z]; exact ⟨o, ho, fun v q => by rw [hd] at q; cases q⟩
  · obtain ⟨⟨old, he⟩, hi⟩ := st
    exact ⟨⟨old, k e (by simp) _ he⟩, hi.at fun o q => k it (by simp) o q⟩
  · intro X hP hw hK hc i pins s σ H E I hf st hg
    subst hP hw hK
    obtain ⟨⟨old, he⟩, hit⟩ := st
    obtain ⟨xs, x, hq, hx⟩ := hg
    obtain ⟨its, rv, p, hz⟩ := I.list hq
    obtain ⟨u, hu, ru⟩ := rv.get hx
    have hel : e < s.heap.objs.size := Heap.lt_size he
    have hil : it < s.heap.objs.size := by obtain ⟨_, q, _⟩ := hit; exact Heap.lt_size q
    have na : a ≠ it := ne_itLE p.isList hit
    have k1 : i < its.toArray.size := by have := (List.getElem?_eq_some_iff.mp hu).1; simpa using this
    have nf : e ∉ [it, a] := fun m => by
      rcases List.mem_cons.mp m with z | z
      · exact hne z
      · exact hea (List.mem_singleton.mp z)
    refine wpAny_pyNext_enum_itemD (i := k + i) (draws_shift (Draws.list (A := X.A.in1) (I.ok.hd hc) it a na its.toArray) k) he ⟨by omega, by rw [Nat.add_sub_cancel_left]; exact ⟨hit, p.isList⟩⟩ (by omega) hne nf fun v h' tk hv ho hit' hT hsz hk => ?_
    have w1 : v = u := by
      rw [Nat.add_sub_cancel_left] at hv
      exact Option.some.inj (hv.symm.trans (by simpa using hu))
    subst w1
    refine ⟨_, rfl, wpAny_letOwnedTupleGo_enum (s := { s with heap := h', toks := tk + 1 }) ho fun h'' he' sb => ?_⟩
    have hT2 : h''.get? s.heap.objs.size = some { cls := .type "tuple", data := .seq #[.int ((k + i : Nat) : Int) tk, v] } := (sb.2 _ (Nat.ne_of_gt hel)).trans hT
    have new : ObjOk X.prog X.w (upd H s.heap.objs.size (.tup [.int ((k + i : Nat) : Int), x])) h'' s.heap.objs.size (.tup [.int ((k + i : Nat) : Int), x]) :=
      ⟨by show 2 ≤ sizeLine; decide, [.int ((k + i : Nat) : Int) tk, v], .cons ⟨_, rfl⟩ (.cons ru .nil), ⟨_, hT2, rfl, _, rfl⟩⟩
    have I1 : Inv X pins σ (upd H s.heap.objs.size (.tup [.int ((k + i : Nat) : Int), x])) { s with heap := h'', toks := tk + 1 } :=
      I.turnedNew (ch := [e, it]) (fun b ob hb q => (sb.2 b (fun z => hb (by simp [z]))).trans (hk b ob (fun z => hb (by simp [z])) (fun z => hb (by simp [z])) q)) hf (Nat.le_refl _) new
    have hit2 := hit'.2
    rw [show k + i + 1 - k = i + 1 by omega] at hit2
    refine ⟨.ref s.heap.objs.size, _, I1, rfl, ⟨_, x, rfl, I.hok.fresh (Nat.le_refl _), rfl, fun ys hy => by rw [I.list_inj hy hq]; exact hx⟩, ⟨⟨v, ?_⟩, hit2.1.at fun o q => (sb.2 it (Ne.symm hne)).trans q⟩, fun b hb => ?_⟩
    · have e1 : ((k + (i + 1) : Nat) : Int) = ((k + i : Nat) : Int) + 1 := by omega
      rw [e1]; exact he'
    · have hb' : b < s.heap.objs.size := by
        have e' : b = e ∨ b = it := by simpa using hb
        rcases e' with z | z
        · rw [z]; exact hel
        · rw [z]; exact hil
      rw [upd_ne (Nat.ne_of_lt hb')]
      exact (hf b hb).1
  · intro X hP hw hK hc i pins s σ H E I hf st hg
    subst hP hw hK
    obtain ⟨⟨old, he⟩, hit⟩ := st
    obtain ⟨xs, hq, hx⟩ := hg
    obtain ⟨its, rv, p, hz⟩ := I.list hq
    have na : a ≠ it := ne_itLE p.isList hit
    obtain ⟨f0, f1, f2, f3, f4, f5⟩ := hf it (by simp)
    have hl := rv.length
    have ei : its.toArray.size = i := by simp; omega
    exact wpAny_pyNext_enum_endD (Draws.list (A := X.A.in1) (I.ok.hd hc) it a na its.toArray) he (by rw [ei]; exact ⟨hit, p.isList⟩) fun h' eb => ⟨rfl, I.turned (t' := s.toks) (fun b o hb q => eb b o hb q) f0 f1 f3 f4 f5⟩
  · obtain ⟨⟨_, he⟩, _⟩ := st
    exact wpAny_pyIter_enum he h
section
variable {M : Model} {A : Around} {E : Value → Shared → Prop} {s : Shared} {env : Env}
theorem callWith_typeKwB {pos : Pos} {T : String} {first : List Value} {args : List (Bool × Sem Value)} {keywords : List (Option Str × Sem Value)} {Q : Value → Shared → Prop}
    (hplain : args.any (·.1) = false) (hkw : keywords.any (·.1.isNone) = false)
    (h : wpAny M A (evalArgs (.type T) true args keywords) (fun a s₁ => wpAny M A (call (.type T) (first ++ a.pos) a.kw) Q E s₁) E s) :
    wpAny M A (callWith pos (.type T) first args keywords) Q E s := by
  unfold callWith
  refine wpAny_bind (wpAny_holding (wpAny_mono h (fun a s₁ h₁ => wpAny_bind (wpAny_standAt ?_)) fun _ _ x => x))
  simp only [hplain, hkw, Bool.or_false]
  refine wpAny_bind (wpAny_pure ?_)
  exact wpAny_bind (wpAny_mono h₁ (fun r s₂ hr => wpAny_bind (wpAny_holding (wpAny_point (wpAny_pure hr)))) fun _ _ x => x)
theorem callWith_kwT {pos : Pos} {T : String} {e : Expr} {rest : List Expr} {kws : List Keyword} {Q : Value → Shared → Prop}
    (h : wpAny M A (spliced (backTo pos (starEach (e :: rest) env))) (fun vs s₁ => wpAny M A (evalAll ((backToKw pos (keywordEach kws env)).map (·.2)))
      (fun kvs s₂ => wpAny M A (call (.type T) vs (((backToKw pos (keywordEach kws env)).filterMap (·.1)).zip kvs)) Q E s₂) E s₁) E s)
    (he : backTo pos (starEach (e :: rest) env) = (false, eval e env) :: backTo pos (starEach rest env) := by rfl)
    (hplain : (backTo pos (starEach (e :: rest) env)).any (·.1) = false := by rfl)
    (hall : (backToKw pos (keywordEach kws env)).all (·.1.isSome) = true := by rfl)
    (hkw : (backToKw pos (keywordEach kws env)).any (·.1.isNone) = false := by rfl) :
    wpAny M A (callWith pos (.type T) [] (backTo pos (starEach (e :: rest) env)) (backToKw pos (keywordEach kws env))) Q E s := by
  refine callWith_typeKwB hplain hkw ?_
  rw [he] at h ⊢
  exact evalArgs_kwB hall h
end
def iEnumS (K : PySem.W.Frag) (ta tk : TA) : TI := fun σ H R => ta σ H fun vs H1 => tk σ H1 fun zs H2 => ∃ a xs k, vs = [.ref a] ∧ zs = [.int ((k : Nat) : Int)] ∧ k ≤ 1000000 ∧ SqL K H2 a xs ∧ R (IteS K a k) H2
theorem pi_enumS (K : PySem.W.Frag) {X : Cx} {e : Expr} {kws : List Keyword} {ta tk : TA} {p pos tpos : Pos} {elts : List Expr} {kk : Nat} (hg : Gl X "enumerate") (hm : X.mg "enumerate" = none) (ha : PA X [e] ta) (hk : PK X kws tk)
    (he : backTo pos (starEach [e] X.env) = (false, eval e X.env) :: backTo pos (starEach [] X.env) := by rfl) (hpl : (backTo pos (starEach [e] X.env)).any (·.1) = false := by rfl)
    (hall : (backToKw pos (keywordEach kws X.env)).all (·.1.isSome) = true := by rfl) (hnone : (backToKw pos (keywordEach kws X.env)).any (·.1.isNone) = false := by rfl) (hks : (backToKw pos (keywordEach kws X.env)).filterMap (·.1) = [Str.ofString "start"] := by rfl) (hK : X.K = K := by rfl) :
    PI X (.Tuple elts kk tpos) (.Call (.Name "enumerate" p) [e] kws pos) (iEnumS K ta tk) := by
  subst hK
  refine ⟨fun pins s σ H R I h => ?_⟩
  refine wpAny_Call_Name_kw (ld_blt I hg hm PyProof.Rows.boot_enumerate ?_)
  refine callWith_kwT (thn (ha.run pos pins s σ H _ I h) fun us s1 ⟨vs, H1, I1, r1, q1⟩ => thn (hk.run pos pins s1 σ H1 _ I1 q1) fun ws s2 ⟨zs, H2, I2, r2, q2⟩ => ?_) he hpl hall hnone
  rw [hks]
  obtain ⟨a, xs, k, ev, ez, hk1, hq, q⟩ := q2
  subst ev ez
  obtain ⟨u1, rfl, ru⟩ := vals1 r1
  obtain ⟨u2, rfl, rk⟩ := vals1 r2
  cases ru
  obtain ⟨tk2, rfl⟩ := rk
  obtain ⟨its, rv, p', hz⟩ := I2.list hq
  have la : a < s2.heap.objs.size := by obtain ⟨_, o, _⟩ := p'.isList; exact Heap.lt_size o
  refine enum_begins_start (begins_list a its.toArray) p'.isList (by omega) (by omega) fun h' he' hit hsz hk' => wpAny_pyIter_enum he' ?_
  have I3 : Inv X pins σ H2 { s2 with heap := h' } := I2.kept (t' := s2.toks) hk'
  refine ⟨s2.heap.objs.size + 1, [s2.heap.objs.size + 1, s2.heap.objs.size], _, _, H2, rfl, I3, turn_enumS (a := a) (k := k) (e := s2.heap.objs.size + 1) (it := s2.heap.objs.size) (Nat.ne_of_gt (Nat.lt_succ_of_lt la)) (Nat.succ_ne_self _), ⟨⟨.none, he'⟩, ⟨_, hit, rfl, rfl⟩⟩, fun b hb => ?_, q⟩
  have e' : b = s2.heap.objs.size + 1 ∨ b = s2.heap.objs.size := by simpa using hb
  have hle : s2.heap.objs.size ≤ b := by
    rcases e' with z | z
    · rw [z]; exact Nat.le_add_right _ _
    · rw [z]; exact Nat.le_refl _
  exact I2.fpOk hle (I2.hok.fresh hle)
theorem walk_enumS {K : PySem.W.Frag} {a : Addr} {xs : List V} {k : Nat} : Walk (IteS K a k) xs.length (fun H => SqL K H a xs) (YPair (fun i => some (.int ((k + i : Nat) : Int))) (fun i => xs[i]?)) := by
  refine ⟨fun i H hi q => ⟨xs, xs[i], q, by simp⟩, fun H q => ⟨xs, q, rfl⟩, fun i H v H' _ q y => ?_⟩
  obtain ⟨T, x, e1, e2, e3, e4⟩ := y
  exact ⟨T, _, x, e1, e2, e3, rfl, e4 xs q⟩
end Z

set_option Elab.async false
set_option linter.all false
set_option maxRecDepth 100000
set_option maxHeartbeats 400000
namespace Z
open PySem PySem.Spec PyProof.Rows L2
variable [TabCtx]
/-- an address that is kept clear of, and is none of one's own, may change -/
theorem Rel.goD {L B O : List Addr} {H H' : Hp} {σ : L2.St} {δ : List Sl} {n m : Nat} {D : Addr} (h : Rel L B O H σ δ n) (hD : D ∈ B) (nO : D ∉ O) (g : Go (D :: L) H H') (f : Lfs L H' m) : Rel L B O H' σ δ m where
  len := h.len
  dd := fun i x e => by
    obtain ⟨v, e1, dv⟩ := h.dd i x e
    exact ⟨v, e1, dv.g (g.w fun a ha => by
      rcases List.mem_cons.mp ha with z | z
      · rw [z]; exact hD
      · exact h.lb a z)⟩
  oo := fun i xs e => by
    obtain ⟨a, vs, e1, ha, hs, hA⟩ := h.oo i xs e
    refine ⟨a, vs, e1, ha, g.k a _ (fun z => ?_) hs, hA.g (g.w fun a ha => by
      rcases List.mem_cons.mp ha with z | z
      · rw [z]; exact hD
      · exact h.lb a z)⟩
    rcases List.mem_cons.mp z with z | z
    · exact nO (by rw [← z]; exact ha)
    · exact (h.ob a ha).2 z
  uq := h.uq
  kk := fun i tp ks e => by
    obtain ⟨a, e1, ha, hd⟩ := h.kk i tp ks e
    refine ⟨a, e1, ha, hd.to (hd.kg g fun z => ?_) fun _ _ hA => hA.g (g.w fun a ha => by
      rcases List.mem_cons.mp ha with z | z
      · rw [z]; exact hD
      · exact h.lb a z)⟩
    rcases List.mem_cons.mp z with z | z
    · exact nO (by rw [← z]; exact ha)
    · exact (h.ob a ha).2 z
  uk := h.uk
  ll := h.ll
  vv := h.vv
  bk := h.bk.go g
  ob := h.ob
  lb := h.lb
  lf := f
/-! ### walks, as data -/
/-- S: the walked list is data (else one's own, that the walk leaves as it is) -/
structure SI (S : Bool) (wi : TI) (f : DI) : Prop where
  run : ∀ {L B O : List Addr} {H : Hp} {σ : L2.St} {δ : List Sl} {n : Nat} {R : It → Hp → Prop} {K : List PyData → Nat → Prop}, Rel L B O H σ δ n → f δ n K → (∀ ds m J H1 G Y, K ds m → Go L H H1 → Lfs L H1 m → Walk J ds.length G Y → G H1 →
    (∀ W H2, (∀ a ∈ W, a ∈ (if S = true then B else L) ∨ H1 a = none) → Go W H1 H2 → G H2) →
    (∀ W C i H2 x H3, (∀ a ∈ W, a ∈ (if S = true then B else L) ∨ H1 a = none) → (∀ a ∈ C, a ∈ B ∨ H1 a = none) → Bk C H2 → Go W H1 H2 → i < ds.length → Y i H2 x H3 → Same H2 H3 ∧ ∃ d, ds[i]? = some d ∧ Dt C H3 x d) → R J H1) → wi σ H R
theorem dt_to {B W C : List Addr} {H1 H2 : Hp} (hw : ∀ a ∈ W, a ∈ B ∨ H1 a = none) (hc : ∀ a ∈ C, a ∈ B ∨ H1 a = none) (g : Go W H1 H2) : ∀ a o, a ∉ B → (∀ ps, o ≠ .tbl ps) → H1 a = some o → a ∉ C ∧ H2 a = some o := fun a o n m e => by
  refine ⟨fun z => ?_, g.k0 a o (fun z => ?_) m e⟩
  · rcases hc a z with q | q
    · exact n q
    · rw [q] at e
      cases e
  · rcases hw a z with q | q
    · exact n q
    · rw [q] at e
      cases e
theorem subB {S : Bool} {L B W : List Addr} {H1 : Hp} (lb : ∀ a ∈ L, a ∈ B) (hw : ∀ a ∈ W, a ∈ (if S = true then B else L) ∨ H1 a = none) : ∀ a ∈ W, a ∈ B ∨ H1 a = none := fun a ha => by
  cases S with
  | true => exact hw a ha
  | false => exact (hw a ha).imp (fun z => lb a z) id
theorem SI.weak {wi : TI} {f : DI} (h : SI true wi f) : SI false wi f := ⟨fun r k q => h.run r k fun ds m J H1 G Y k1 g1 l1 w G1 st it => q ds m J H1 G Y k1 g1 l1 w G1 (fun W H2 hw g => st W H2 (subB (S := false) r.lb hw) g) fun W C i H2 x H3 hw hc b g hi y => it W C i H2 x H3 (subB (S := false) r.lb hw) hc b g hi y⟩
section
variable {K : PySem.W.Frag} {S : Bool}
def fiL (fe : DE) : DI := fun δ n K => fe δ n fun d m => ∃ xs, d = .list xs ∧ K xs m
def fiT (fe : DE) : DI := fun δ n K => fe δ n fun d m => ∃ xs, d = .tuple xs ∧ K xs m
def fiS (fe : DE) : DI := fun δ n K => fe δ n fun d m => ∃ xs, (d = .list xs ∨ d = .tuple xs) ∧ K xs m
theorem at_lenD {xs : List V} {ds : List PyData} {B : List Addr} {H : Hp} (hA : DtA B H xs ds) {J : It} {G : Hp → Prop} {Y : Nat → Hp → V → Hp → Prop} (w : Walk J xs.length G Y) : Walk J ds.length G Y := by rw [← hA.len]; exact w
theorem si_list {te : TE} {fe : DE} (he : SE te fe) : SI S (iList K te) (fiL fe) := ⟨fun {L B O H σ δ n R Kk} r k q => he.run r k fun d m v H1 ⟨xs, e, k1⟩ g1 l1 d1 => by
  subst e
  obtain ⟨a, vs, rfl, na, ha, hA⟩ := d1.lst2
  refine ⟨a, rfl, ⟨vs, SqL.of ha⟩, q xs m _ H1 _ _ k1 g1 l1 (at_lenD hA walk_list) (SqL.of ha) (fun W H2 hw g => SqL.of (dt_to (subB r.lb hw) (C := []) (fun _ h => nomatch h) g a _ na (fun _ z => by cases z) ha).2) fun W C i H2 x H3 hw hc b g hi y => ?_⟩
  obtain ⟨rfl, y⟩ := y
  obtain ⟨d, f, hd⟩ := (DtA.to (dt_to (subB r.lb hw) hc g) _ _ hA).getV y
  exact ⟨Same.refl _, d, f, hd⟩⟩
theorem si_tup {te : TE} {fe : DE} (he : SE te fe) : SI S (iTup K te) (fiT fe) := ⟨fun {L B O H σ δ n R Kk} r k q => he.run r k fun d m v H1 ⟨xs, e, k1⟩ g1 l1 d1 => by
  subst e
  obtain ⟨a, vs, rfl, na, ha, hA⟩ := d1.tupI
  refine ⟨a, rfl, ⟨vs, SqT.of ha⟩, q xs m _ H1 _ _ k1 g1 l1 (at_lenD hA walk_tup) (SqT.of ha) (fun W H2 hw g => SqT.of (dt_to (subB r.lb hw) (C := []) (fun _ h => nomatch h) g a _ na (fun _ z => by cases z) ha).2) fun W C i H2 x H3 hw hc b g hi y => ?_⟩
  obtain ⟨rfl, y⟩ := y
  obtain ⟨d, f, hd⟩ := (DtA.to (dt_to (subB r.lb hw) hc g) _ _ hA).getV y
  exact ⟨Same.refl _, d, f, hd⟩⟩
/-- a list of one's own -/
def fiO (i : Nat) : DI := fun δ n K => ∃ xs, δ[i]? = some (.o xs) ∧ K xs n
theorem si_own {i : Nat} : SI false (iList K (tVar i)) (fiO i) := ⟨fun {L B O H σ δ n R Kk} r ⟨xs, e, k⟩ q => by
  obtain ⟨a, vs, ea, ha, hs, hA⟩ := r.oo i xs e
  have st : ∀ W H2, (∀ a ∈ W, a ∈ L ∨ H a = none) → Go W H H2 → H2 a = some (.lst vs) := fun W H2 hw g => g.k a _ (fun z => by
    rcases hw a z with y | y
    · exact (r.ob a ha).2 y
    · rw [y] at hs; cases hs) hs
  refine ⟨_, ea, a, rfl, ⟨vs, SqL.of hs⟩, q xs n _ H _ _ k Go.refl r.lf (at_lenD hA walk_list) (SqL.of hs) (fun W H2 hw g => SqL.of (st W H2 (fun a ha => hw a ha) g)) fun W C i H2 x H3 hw hc b g hi y => ?_⟩
  obtain ⟨rfl, y⟩ := y
  obtain ⟨d, f, hd⟩ := (DtA.to (dt_to (subB (S := false) r.lb hw) hc g) _ _ hA).getV y
  exact ⟨Same.refl _, d, f, hd⟩⟩
def rgD (lo : Int) (n : Nat) : List PyData := (List.range n).map fun i => .int (lo + (i : Nat))
theorem rgD_get {lo : Int} {n i : Nat} (h : i < n) : (rgD lo n)[i]? = some (.int (lo + (i : Nat))) := by
  unfold rgD
  rw [List.getElem?_map, List.getElem?_range h]
  rfl
theorem rgD_len {lo : Int} {n : Nat} : (rgD lo n).length = n := by unfold rgD; rw [List.length_map, List.length_range]
def fiR1 (fa : DA) : DI := fun δ n K => fa δ n fun xs m => ∃ z, xs = [.d (.int z)] ∧ -(2 ^ 62) ≤ z ∧ z < 2 ^ 62 ∧ K (rgD 0 z.toNat) m
def fiR2 (fa : DA) : DI := fun δ n K => fa δ n fun xs m => ∃ y z, xs = [.d (.int y), .d (.int z)] ∧ (-(2 ^ 62) ≤ y ∧ y < 2 ^ 62 ∧ -(2 ^ 62) ≤ z ∧ z < 2 ^ 62) ∧ K (rgD y (z - y).toNat) m
theorem rg_walk {lo : Int} {n : Nat} : Walk (Itr lo n) (rgD lo n).length (fun _ => True) (YFn fun i => .int (lo + i)) := by rw [rgD_len]; exact walk_range
theorem si_r1 {ta : TA} {fa : DA} (ha : SA ta fa) : SI S (iRng1 ta) (fiR1 fa) := ⟨fun {L B O H σ δ n R Kk} r k q => ha.run r k fun xs m vs H1 ⟨z, e, b1, b2, k1⟩ g1 l1 v1 => by
  subst e
  cases v1 with
  | d h1 h2 =>
    cases h2
    cases h1
    refine ⟨z, rfl, b1, b2, q _ m _ H1 _ _ k1 g1 l1 rg_walk trivial (fun _ _ _ _ => trivial) fun W C i H2 x H3 hw hc b g hi y => ?_⟩
    obtain ⟨rfl, rfl⟩ := y
    exact ⟨Same.refl _, _, rgD_get (by rw [rgD_len] at hi; exact hi), .int _⟩⟩
theorem si_r2 {ta : TA} {fa : DA} (ha : SA ta fa) : SI S (iRng2 ta) (fiR2 fa) := ⟨fun {L B O H σ δ n R Kk} r k q => ha.run r k fun xs m vs H1 ⟨y, z, e, bb, k1⟩ g1 l1 v1 => by
  subst e
  cases v1 with
  | d h1 h2 =>
    cases h2 with
    | d h2 h3 =>
      cases h3
      cases h1
      cases h2
      refine ⟨y, z, rfl, bb, q _ m _ H1 _ _ k1 g1 l1 rg_walk trivial (fun _ _ _ _ => trivial) fun W C i H2 x H3 hw hc b g hi y => ?_⟩
      obtain ⟨rfl, rfl⟩ := y
      exact ⟨Same.refl _, _, rgD_get (by rw [rgD_len] at hi; exact hi), .int _⟩⟩
/-- pairs -/
def zpD (n : Nat) (xs ys : List PyData) : List PyData := (List.range n).map fun i => .tuple [xs.getD i .none, ys.getD i .none]
theorem zpD_len {n : Nat} {xs ys : List PyData} : (zpD n xs ys).length = n := by unfold zpD; rw [List.length_map, List.length_range]
theorem gD {xs : List PyData} {i : Nat} {d : PyData} (h : xs[i]? = some d) : xs.getD i .none = d := by rw [List.getD_eq_getElem?_getD, h]; rfl
theorem zpD_get {n i : Nat} {xs ys : List PyData} {x y : PyData} (h : i < n) (hx : xs[i]? = some x) (hy : ys[i]? = some y) : (zpD n xs ys)[i]? = some (.tuple [x, y]) := by
  unfold zpD
  rw [List.getElem?_map, List.getElem?_range h]
  show some (PyData.tuple [xs.getD i .none, ys.getD i .none]) = _
  rw [gD hx, gD hy]
def enD (k : Nat) (xs : List PyData) : List PyData := (List.range xs.length).map fun i => .tuple [.int ((k + i : Nat) : Int), xs.getD i .none]
theorem enD_len {k : Nat} {xs : List PyData} : (enD k xs).length = xs.length := by unfold enD; rw [List.length_map, List.length_range]
theorem enD_get {k i : Nat} {xs : List PyData} {x : PyData} (hx : xs[i]? = some x) : (enD k xs)[i]? = some (.tuple [.int ((k + i : Nat) : Int), x]) := by
  unfold enD
  rw [List.getElem?_map, List.getElem?_range (List.getElem?_eq_some_iff.mp hx).1]
  show some (PyData.tuple [_, xs.getD i .none]) = _
  rw [gD hx]
theorem pair_new {C : List Addr} {H2 : Hp} {T : Addr} {x y : V} {dx dy : PyData} (b : Bk C H2) (hT : H2 T = none) (h1 : Dt C H2 x dx) (h2 : Dt C H2 y dy) : Same H2 (upd H2 T (.tup [x, y])) ∧ Dt C (upd H2 T (.tup [x, y])) (.ref T) (.tuple [dx, dy]) :=
  ⟨sm_new hT, .tup (b.ne hT) upd_same (.cons (h1.s (sm_new hT)) (.cons (h2.s (sm_new hT)) .nil))⟩
def fiE (fa : DA) : DI := fun δ n K => fa δ n fun xs m => ∃ ys, xs = [.d (.list ys)] ∧ K (enD 0 ys) m
theorem si_enum {ta : TA} {fa : DA} (ha : SA ta fa) : SI S (iEnum K ta) (fiE fa) := ⟨fun {L B O H σ δ n R Kk} r k q => ha.run r k fun xs m vs H1 ⟨ys, e, k1⟩ g1 l1 v1 => by
  subst e
  cases v1 with
  | d h1 h2 =>
    cases h2
    obtain ⟨a, vs, rfl, na, ha, hA⟩ := h1.lst2
    refine ⟨a, vs, rfl, SqL.of ha, q _ m _ H1 (fun H => SqL K H a vs) _ k1 g1 l1 (by rw [enD_len]; exact at_lenD hA walk_enum) (SqL.of ha) (fun W H2 hw g => SqL.of (dt_to (subB r.lb hw) (C := []) (fun _ h => nomatch h) g a _ na (fun _ z => by cases z) ha).2) fun W C i H2 x H3 hw hc b g hi y => ?_⟩
    obtain ⟨T, u, z, rfl, hT, rfl, e1, e2⟩ := y
    obtain ⟨d, f, hd⟩ := (DtA.to (dt_to (subB r.lb hw) hc g) _ _ hA).getV e2
    cases e1
    obtain ⟨s3, d3⟩ := pair_new b hT (.int (i : Nat)) hd
    refine ⟨s3, _, enD_get f, ?_⟩
    rw [Nat.zero_add]
    exact d3⟩
def fiES (fa fk : DA) : DI := fun δ n K => fa δ n fun xs m => fk δ m fun zs j => ∃ ys k, xs = [.d (.list ys)] ∧ zs = [.d (.int ((k : Nat) : Int))] ∧ k ≤ 1000000 ∧ K (enD k ys) j
theorem si_enumS {ta tk : TA} {fa fk : DA} (ha : SA ta fa) (hk : SA tk fk) : SI S (iEnumS K ta tk) (fiES fa fk) := ⟨fun {L B O H σ δ n R Kk} r k q => ha.run r k fun xs m vs H0 k0 g0 l0 v0 => hk.run (r.go g0 l0) k0 fun zs j ws H1 ⟨ys, k, e, e2, hk1, k1⟩ g1 l1 v1 => by
  subst e e2
  cases v1 with
  | d h1 h2 =>
    cases h2
    cases h1
    cases v0 with
    | d h1 h2 =>
      cases h2
      have h1 := h1.g (g1.w r.lb)
      obtain ⟨a, vs, rfl, na, ha, hA⟩ := h1.lst2
      refine ⟨a, vs, k, rfl, rfl, hk1, SqL.of ha, q _ j _ H1 (fun H => SqL K H a vs) _ k1 (g0.trans g1) l1 (by rw [enD_len]; exact at_lenD hA walk_enumS) (SqL.of ha) (fun W H2 hw g => SqL.of (dt_to (subB r.lb hw) (C := []) (fun _ h => nomatch h) g a _ na (fun _ z => by cases z) ha).2) fun W C i H2 x H3 hw hc b g hi y => ?_⟩
      obtain ⟨T, u, z, rfl, hT, rfl, e1, e2⟩ := y
      obtain ⟨d, f, hd⟩ := (DtA.to (dt_to (subB r.lb hw) hc g) _ _ hA).getV e2
      cases e1
      obtain ⟨s3, d3⟩ := pair_new b hT (.int ((k + i : Nat) : Int)) hd
      exact ⟨s3, _, enD_get f, d3⟩⟩
def fiZ (fa : DA) : DI := fun δ n K => fa δ n fun xs m => ∃ ys zs, (xs = [.d (.list ys), .d (.list zs)] ∨ xs = [.d (.tuple ys), .d (.tuple zs)]) ∧ K (zpD (min ys.length zs.length) ys zs) m
theorem si_zip {ta : TA} {fa : DA} (ha : SA ta fa) : SI S (RZ.iZipA K ta) (fiZ fa) := ⟨fun {L B O H σ δ n R Kk} r k q => ha.run r k fun xs m vs H1 ⟨ys, zs, e, k1⟩ g1 l1 v1 => by
  rcases e with e | e <;> subst e <;> cases v1 with
  | d h1 h2 => cases h2 with
    | d h2 h3 =>
      cases h3
      first
      | obtain ⟨a, vs, rfl, na, ha, hA⟩ := h1.lst2
        obtain ⟨b, ws, rfl, nb, hb, hC⟩ := h2.lst2
        have l1' := hA.len
        have l2' := hC.len
        refine ⟨a, b, vs, ws, rfl, .inl ⟨SqL.of ha, SqL.of hb, q _ m _ H1 (fun H => SqL K H a vs ∧ SqL K H b ws) _ k1 g1 l1 (by rw [zpD_len]; exact walk_zip (xs := vs) (ys := ws) (by rw [l1', l2'])) ⟨SqL.of ha, SqL.of hb⟩ (fun W H2 hw g => ⟨SqL.of (dt_to (subB r.lb hw) (C := []) (fun _ h => nomatch h) g a _ na (fun _ z => by cases z) ha).2, SqL.of (dt_to (subB r.lb hw) (C := []) (fun _ h => nomatch h) g b _ nb (fun _ z => by cases z) hb).2⟩) fun W C i H2 x H3 hw hc bk g hi y => ?_⟩⟩
        obtain ⟨T, u, z, rfl, hT, rfl, e1, e2⟩ := y
        obtain ⟨d, f, hd⟩ := (DtA.to (dt_to (subB r.lb hw) hc g) _ _ hA).getV e1
        obtain ⟨d', f', hd'⟩ := (DtA.to (dt_to (subB r.lb hw) hc g) _ _ hC).getV e2
        obtain ⟨s3, d3⟩ := pair_new bk hT hd hd'
        exact ⟨s3, _, zpD_get (by rw [zpD_len] at hi; exact hi) f f', d3⟩
      | obtain ⟨a, vs, rfl, na, ha, hA⟩ := h1.tupI
        obtain ⟨b, ws, rfl, nb, hb, hC⟩ := h2.tupI
        have l1' := hA.len
        have l2' := hC.len
        refine ⟨a, b, vs, ws, rfl, .inr ⟨SqT.of ha, SqT.of hb, q _ m _ H1 (fun H => SqT K H a vs ∧ SqT K H b ws) _ k1 g1 l1 (by rw [zpD_len]; exact walk_zipT (xs := vs) (ys := ws) (by rw [l1', l2'])) ⟨SqT.of ha, SqT.of hb⟩ (fun W H2 hw g => ⟨SqT.of (dt_to (subB r.lb hw) (C := []) (fun _ h => nomatch h) g a _ na (fun _ z => by cases z) ha).2, SqT.of (dt_to (subB r.lb hw) (C := []) (fun _ h => nomatch h) g b _ nb (fun _ z => by cases z) hb).2⟩) fun W C i H2 x H3 hw hc bk g hi y => ?_⟩⟩
        obtain ⟨T, u, z, rfl, hT, rfl, e1, e2⟩ := y
        obtain ⟨d, f, hd⟩ := (DtA.to (dt_to (subB r.lb hw) hc g) _ _ hA).getV e1
        obtain ⟨d', f', hd'⟩ := (DtA.to (dt_to (subB r.lb hw) hc g) _ _ hC).getV e2
        obtain ⟨s3, d3⟩ := pair_new bk hT hd hd'
        exact ⟨s3, _, zpD_get (by rw [zpD_len] at hi; exact hi) f f', d3⟩⟩
def tpD (n : Nat) (xs ys zs : List PyData) : List PyData := (List.range n).map fun i => .tuple [xs.getD i .none, ys.getD i .none, zs.getD i .none]
theorem tpD_len {n : Nat} {xs ys zs : List PyData} : (tpD n xs ys zs).length = n := by unfold tpD; rw [List.length_map, List.length_range]
theorem tpD_get {n i : Nat} {xs ys zs : List PyData} {x y z : PyData} (h : i < n) (hx : xs[i]? = some x) (hy : ys[i]? = some y) (hz : zs[i]? = some z) : (tpD n xs ys zs)[i]? = some (.tuple [x, y, z]) := by
  unfold tpD
  rw [List.getElem?_map, List.getElem?_range h]
  show some (PyData.tuple [xs.getD i .none, ys.getD i .none, zs.getD i .none]) = _
  rw [gD hx, gD hy, gD hz]
def fiZ3 (fa : DA) : DI := fun δ n K => fa δ n fun xs m => ∃ xs' ys zs, xs = [.d (.tuple xs'), .d (.tuple ys), .d (.tuple zs)] ∧ ys.length = xs'.length ∧ zs.length = xs'.length ∧ K (tpD xs'.length xs' ys zs) m
theorem si_zip3 {ta : TA} {fa : DA} (ha : SA ta fa) : SI S (iZip3 K ta) (fiZ3 fa) := ⟨fun {L B O H σ δ n R Kk} r k q => ha.run r k fun xs m vs H1 ⟨xs', ys, zs, e, n1, n2, k1⟩ g1 l1 v1 => by
  subst e
  cases v1 with
  | d h1 h2 => cases h2 with
    | d h2 h3 => cases h3 with
      | d h3 h4 =>
        cases h4
        obtain ⟨a, vs, rfl, na, ha, hA⟩ := h1.tupI
        obtain ⟨b, ws, rfl, nb, hb, hC⟩ := h2.tupI
        obtain ⟨c, us, rfl, nc, hc, hD⟩ := h3.tupI
        have l1' := hA.len
        have l2' := hC.len
        have l3' := hD.len
        have tr := fun (x : Addr) (ws : List V) (nx : x ∉ B) (hx : H1 x = some (.tup ws)) (W : List Addr) (H2 : Hp) (hw : ∀ a ∈ W, a ∈ (if S = true then B else L) ∨ H1 a = none) (g : Go W H1 H2) => (SqT.of (K := K) (dt_to (subB r.lb hw) (C := []) (fun _ h => nomatch h) g x _ nx (fun _ z => by cases z) hx).2)
        refine ⟨a, b, c, vs, ws, us, rfl, SqT.of ha, SqT.of hb, SqT.of hc, q _ m _ H1 (fun H => SqT K H a vs ∧ SqT K H b ws ∧ SqT K H c us) _ k1 g1 l1 (by rw [tpD_len, ← l1']; exact walk_zip3 (xs := vs) (ys := ws) (ts := us) (by omega) (by omega)) ⟨SqT.of ha, SqT.of hb, SqT.of hc⟩ (fun W H2 hw g => ⟨tr a _ na ha W H2 hw g, tr b _ nb hb W H2 hw g, tr c _ nc hc W H2 hw g⟩) fun W C i H2 x H3 hw hcc bk g hi y => ?_⟩
        obtain ⟨T, u, z, t, rfl, hT, rfl, e1, e2, e3⟩ := y
        obtain ⟨d, f, hd⟩ := (DtA.to (dt_to (subB r.lb hw) hcc g) _ _ hA).getV e1
        obtain ⟨d', f', hd'⟩ := (DtA.to (dt_to (subB r.lb hw) hcc g) _ _ hC).getV e2
        obtain ⟨d2, f2, hd2⟩ := (DtA.to (dt_to (subB r.lb hw) hcc g) _ _ hD).getV e3
        refine ⟨sm_new hT, _, tpD_get (by rw [tpD_len] at hi; exact hi) f f' f2, ?_⟩
        exact .tup (bk.ne hT) upd_same (.cons (hd.s (sm_new hT)) (.cons (hd'.s (sm_new hT)) (.cons (hd2.s (sm_new hT)) .nil)))⟩
end
/-! ### what is assigned to -/
def gdName (i : Nat) : DG := fun d δ K => K (δ.set i (.d d))
abbrev DGs := List PyData → List Sl → (List Sl → Prop) → Prop
structure SGs (tg : List Nat) (g : TGs) (f : DGs) : Prop where
  run : ∀ {L B O : List Addr} {H : Hp} {σ : L2.St} {δ : List Sl} {n : Nat} {Q : L2.St → Hp → Prop} {K : List Sl → Prop} {vs : List V} {ds : List PyData}, Rel L B O H σ δ n → DtA B H vs ds → f ds δ K → (∀ σ' δ', K δ' → Rel L B O H σ' δ' n → (∀ vs : List Nat, (∀ i ∈ tg, i ∈ vs) → L2.wipe σ' vs = L2.wipe σ vs) → Q σ' H) → g vs σ H Q
theorem sg_name {i : Nat} : SG [i] (gName i) (gdName i) := ⟨fun r hd k q => q _ _ k (r.set_d i hd) fun vs h => wipe_set _ _ _ _ (h i (List.mem_singleton.mpr rfl))⟩
def gdNil : DGs := fun ds δ K => ds = [] ∧ K δ
def gdCons (f : DG) (fs : DGs) : DGs := fun ds δ K => ∃ d r, ds = d :: r ∧ f d δ fun δ' => fs r δ' K
theorem sgs_nil : SGs [] gNil gdNil := ⟨fun r hd ⟨e, k⟩ q => by
  subst e
  cases hd
  exact ⟨rfl, q _ _ k r fun _ _ => rfl⟩⟩
theorem sgs_cons {tg ts : List Nat} {g : TG} {gs : TGs} {f : DG} {fs : DGs} (h1 : SG tg g f) (h2 : SGs ts gs fs) : SGs (tg ++ ts) (gCons g gs) (gdCons f fs) := ⟨fun r hd ⟨d, ds, e, k⟩ q => by
  subst e
  cases hd with
  | cons hd hr =>
    refine ⟨_, _, rfl, h1.run r hd k fun σ1 δ1 k1 r1 w1 => h2.run r1 hr k1 fun σ2 δ2 k2 r2 w2 => q σ2 δ2 k2 r2 fun vs hv => ?_⟩
    rw [w2 vs fun i hi => hv i (List.mem_append_right _ hi), w1 vs fun i hi => hv i (List.mem_append_left _ hi)]⟩
def gdTup (n : Nat) (fs : DGs) : DG := fun d δ K => ∃ ds, d = .tuple ds ∧ ds.length = n ∧ fs ds δ K
def gdLst (n : Nat) (fs : DGs) : DG := fun d δ K => ∃ ds, d = .list ds ∧ ds.length = n ∧ fs ds δ K
theorem sg_tup {K : PySem.W.Frag} {tg : List Nat} {n : Nat} {gs : TGs} {fs : DGs} (h : SGs tg gs fs) : SG tg (gTup K n gs) (gdTup n fs) := ⟨fun r hd ⟨ds, e, l, k⟩ q => by
  subst e
  obtain ⟨a, vs, rfl, _, ha, hA⟩ := hd.tupI
  exact ⟨a, vs, rfl, SqT.of ha, by rw [hA.len]; exact l, h.run r hA k q⟩⟩
theorem sg_lst {K : PySem.W.Frag} {tg : List Nat} {n : Nat} {gs : TGs} {fs : DGs} (h : SGs tg gs fs) : SG tg (gLst K n gs) (gdLst n fs) := ⟨fun r hd ⟨ds, e, l, k⟩ q => by
  subst e
  obtain ⟨a, vs, rfl, _, ha, hA⟩ := hd.lst2
  exact ⟨a, vs, rfl, SqL.of ha, by rw [hA.len]; exact l, h.run r hA k q⟩⟩
/-! ### comprehensions -/
def fLc (fi : DI) (gd : DG) (ft : DTt) (fe : DE) (vs : List Nat) : DI := fun δ n K => fi δ n fun ds m => ds.length ≤ 100000 ∧ ∃ Iv : Nat → List PyData → Nat → Prop, Iv 0 [] m ∧
  (∀ i d acc j, ds[i]? = some d → Iv i acc j → gd d (wipeD δ vs) fun δ2 => ft δ2 j fun b k => if b = true then fe δ2 k fun y l => Iv (i + 1) (acc ++ [y]) l else Iv (i + 1) acc k) ∧ ∀ acc j, Iv ds.length acc j → K acc j
theorem sn_lc {wi : TI} {fi : DI} {tg : List Nat} {g : TG} {gd : DG} {tt : TT} {ft : DTt} {te : TE} {fe : DE} {vs : List Nat} (hi : SI false wi fi) (hg : SG tg g gd) (ht : ST tt ft) (he : SE te fe) (htv : ∀ i ∈ tg, i ∈ vs) : SN (tLc wi g tt te vs) (fLc fi gd ft fe vs) := ⟨fun {L B O H0 σ δ n Q K} r k q => hi.run r k fun ds m J H1 G Y ⟨hl, Iv, i0, is, iE⟩ g1 l1 w G1 st it => fun D hD => by
  have r1 := r.go g1 l1
  have lfr : ∀ a ∈ L, a ∈ L ∨ H1 a = none := fun a ha => .inl ha
  have nDL : D ∉ L := fun z => (r1.bk D (r.lb D z)).1 hD
  refine lc_it w (fun i H' => ∃ acc j ws, Iv i acc j ∧ Go L H1 H' ∧ Lfs L H' j ∧ H' D = some (.lst ws) ∧ DtA (D :: B) H' ws acc ∧ ws.length ≤ i) ⟨[], m, [], i0, Go.new hD, l1.new hD, upd_same, .nil, Nat.le_refl _⟩ (fun i H' _ p => ?_) (fun i x H' H'' hi' p y => ?_) (fun H' p => ?_)
  · obtain ⟨acc, j, ws, _, g, _⟩ := p
    exact st L H' lfr g
  · obtain ⟨acc, j, ws, iv, g, lf, eD, hA, hw⟩ := p
    have rD : Rel L (D :: B) O H' (L2.wipe σ vs) (wipeD δ vs) j := (r1.fr hD g (by rw [eD]; exact ⟨(fun z => nomatch z), fun _ z => nomatch z⟩) lf).wipe vs
    obtain ⟨s2, d, ed, dd⟩ := it L (D :: B) i H' x H'' lfr (fun a ha => by
      rcases List.mem_cons.mp ha with z | z
      · rw [z]; exact .inr hD
      · exact .inl z) rD.bk g hi' y
    have rD2 := rD.s s2
    refine hg.run rD2 dd (is i d acc j ed iv) fun σ2 δ2 k2 r2 w2 => ⟨by rw [w2 vs htv, wipe_wipe σ vs vs fun _ h => h], ?_⟩
    refine ht.run r2 k2 fun b k' H3 k3 g3 l3 => ?_
    have r3 := r2.go g3 l3
    have eD3 : H3 D = some (.lst ws) := g3.k D _ nDL (s2 _ _ eD)
    have gA : Go (D :: B) H' H3 := (Go.of s2).trans (g3.w r2.lb)
    have gL : Go L H1 H3 := (g.trans (Go.of s2)).trans g3
    cases b with
    | false => exact iteF ⟨acc, k', ws, k3, gL, l3, eD3, hA.g gA, by omega⟩
    | true =>
      refine iteT (he.run r3 k3 fun y l v H4 k4 g4 l4 d4 => ?_)
      have eD4 := g4.k D _ nDL eD3
      have gm : Go (D :: B) H4 (upd H4 D (.lst (ws ++ [v]))) := Go.refl.at (List.mem_cons_self ..)
      refine ⟨ws, eD4, sz (by omega), acc ++ [y], l, ws ++ [v], k4, (gL.trans g4).mut hD, l4.upL nDL, upd_same, ((hA.g (gA.trans (g4.w r2.lb))).app (.one d4)).g gm, by simp; omega⟩
  · obtain ⟨acc, j, ws, iv, g, lf, eD, hA, hw⟩ := p
    exact q acc j D ws H' (iE acc j iv) (g1.trans g) lf (g1.free hD) eD hA⟩
def fLc2 (fi : DI) (gd : DG) (ft : DTt) (fi1 : DI) (gd1 : DG) (ft1 : DTt) (fe : DE) (vs vs1 : List Nat) : DI := fun δ n K => fi δ n fun ds m => ds.length ≤ 100000 ∧ ∃ Iv : Nat → List PyData → Nat → Prop, Iv 0 [] m ∧ (∀ i acc j, Iv i acc j → acc.length ≤ 100000) ∧
  (∀ i d acc j, ds[i]? = some d → Iv i acc j → gd d (wipeD δ vs) fun δ2 => ft δ2 j fun b k => if b = true then fi1 δ2 k fun es l => ∃ Iv1 : Nat → List PyData → Nat → Prop, Iv1 0 acc l ∧ (∀ p acc q, Iv1 p acc q → acc.length ≤ 100000) ∧
    (∀ p d1 acc q, es[p]? = some d1 → Iv1 p acc q → gd1 d1 (wipeD δ2 vs1) fun δ3 => ft1 δ3 q fun b' t => if b' = true then fe δ3 t fun y u => Iv1 (p + 1) (acc ++ [y]) u else Iv1 (p + 1) acc t) ∧ ∀ acc q, Iv1 es.length acc q → Iv (i + 1) acc q
    else Iv (i + 1) acc k) ∧ ∀ acc j, Iv ds.length acc j → K acc j
theorem sn_lc2 {wi wi1 : TI} {fi fi1 : DI} {tg tg1 : List Nat} {g g1 : TG} {gd gd1 : DG} {tt tt1 : TT} {ft ft1 : DTt} {te : TE} {fe : DE} {vs vs1 : List Nat} (hi : SI false wi fi) (hg : SG tg g gd) (ht : ST tt ft) (hi1 : SI true wi1 fi1) (hg1 : SG tg1 g1 gd1) (ht1 : ST tt1 ft1) (he : SE te fe) (htv : ∀ i ∈ tg, i ∈ vs) (htv1 : ∀ i ∈ tg1, i ∈ vs1) : SN (tLc2 wi g tt wi1 g1 tt1 te vs vs1) (fLc2 fi gd ft fi1 gd1 ft1 fe vs vs1) := ⟨fun {L B O H0 σ δ n Q K} r k q => hi.run r k fun ds m J H1 G Y ⟨hl, Iv, i0, ib, is, iE⟩ ga la w G1 st it => fun D hD => by
  have r1 := r.go ga la
  have lfr : ∀ a ∈ L, a ∈ L ∨ H1 a = none := fun a ha => .inl ha
  have nDL : D ∉ L := fun z => (r1.bk D (r.lb D z)).1 hD
  refine walk_W w (fun i H' => ∃ acc j ws, Iv i acc j ∧ Go L H1 H' ∧ Lfs L H' j ∧ H' D = some (.lst ws) ∧ DtA (D :: B) H' ws acc) ⟨[], m, [], i0, Go.new hD, la.new hD, upd_same, .nil⟩ (fun i H' _ p => ?_) (fun i x H' H'' hi' p y => ?_) (fun H' p => ?_)
  · obtain ⟨acc, j, ws, _, g, _⟩ := p
    exact st L H' lfr g
  · obtain ⟨acc, j, ws, iv, g, lf, eD, hA⟩ := p
    have rD : Rel L (D :: B) O H' (L2.wipe σ vs) (wipeD δ vs) j := (r1.fr hD g (by rw [eD]; exact ⟨(fun z => nomatch z), fun _ z => nomatch z⟩) lf).wipe vs
    obtain ⟨s2, d, ed, dd⟩ := it L (D :: B) i H' x H'' lfr (fun a ha => by
      rcases List.mem_cons.mp ha with z | z
      · rw [z]; exact .inr hD
      · exact .inl z) rD.bk g hi' y
    have rD2 := rD.s s2
    refine hg.run rD2 dd (is i d acc j ed iv) fun σ2 δ2 k2 r2 w2 => ⟨by rw [w2 vs htv, wipe_wipe σ vs vs fun _ h => h], ?_⟩
    refine ht.run r2 k2 fun b k' H3 k3 g3 l3 => ?_
    have r3 := r2.go g3 l3
    have eD3 : H3 D = some (.lst ws) := g3.k D _ nDL (s2 _ _ eD)
    have gA : Go (D :: B) H' H3 := (Go.of s2).trans (g3.w r2.lb)
    have gL : Go L H1 H3 := (g.trans (Go.of s2)).trans g3
    cases b with
    | false => exact iteF ⟨acc, k', ws, k3, gL, l3, eD3, hA.g gA⟩
    | true =>
      refine iteT (hi1.run r3 k3 fun es l J1 H4 G1' Y1 ⟨Iv1, j0, jb, js, jE⟩ g4 l4 w1 G4 st1 it1 => ?_)
      have r4 := r3.go g4 l4
      have eD4 : H4 D = some (.lst ws) := g4.k D _ nDL eD3
      have dom4 : ∀ H5, Go (D :: L) H4 H5 → Go L H1 H5 := fun H5 g5 => Go.cons (B := L) g5 (gL.trans g4) hD
      have lb5 : ∀ a ∈ D :: L, a ∈ (if true = true then D :: B else L) ∨ H4 a = none := fun a ha => by
        rcases List.mem_cons.mp ha with z | z
        · rw [z]; exact .inl (List.mem_cons_self ..)
        · exact .inl (r4.lb a z)
      have nDO : D ∉ O := fun z => (r1.bk D (r.ob D z).1).1 hD
      refine walk_W w1 (fun p H5 => ∃ acc j ws, Iv1 p acc j ∧ Go (D :: L) H4 H5 ∧ Lfs L H5 j ∧ H5 D = some (.lst ws) ∧ DtA (D :: B) H5 ws acc) ⟨acc, l, ws, j0, Go.refl, l4, eD4, (hA.g gA).g (g4.w r2.lb)⟩ (fun p H5 _ pp => ?_) (fun p x H5 H6 hp pp y => ?_) (fun H5 pp => ?_)
      · obtain ⟨acc, j, ws, _, g5, _⟩ := pp
        exact st1 (D :: L) H5 lb5 g5
      · obtain ⟨acc, j, ws, iv1, g5, lf5, eD5, hA5⟩ := pp
        have r5 : Rel L (D :: B) O H5 σ2 δ2 j := r4.goD (List.mem_cons_self ..) nDO g5 lf5
        obtain ⟨s6, d1, ed1, dd1⟩ := it1 (D :: L) (D :: B) p H5 x H6 lb5 (fun a ha => .inl ha) r5.bk g5 hp y
        have r6 := (r5.s s6).wipe vs1
        refine hg1.run r6 dd1 (js p d1 acc j ed1 iv1) fun σ3 δ3 k5 r7 w7 => ⟨by rw [w7 vs1 htv1, wipe_wipe σ2 vs1 vs1 fun _ h => h], ?_⟩
        refine ht1.run r7 k5 fun b' t H7 k7 g7 l7 => ?_
        have r8 := r7.go g7 l7
        have nDL' := nDL
        have eD7 : H7 D = some (.lst ws) := g7.k D _ nDL (s6 _ _ eD5)
        have g57 : Go (D :: L) H4 H7 := (g5.trans (Go.of s6)).trans (g7.w fun a ha => List.mem_cons_of_mem _ ha)
        have gB : Go (D :: B) H5 H7 := (Go.of s6).trans (g7.w r7.lb)
        cases b' with
        | false => exact iteF ⟨acc, t, ws, k7, g57, l7, eD7, hA5.g gB⟩
        | true =>
          refine iteT (he.run r8 k7 fun yy u v H8 k8 g8 l8 d8 => ?_)
          have eD8 := g8.k D _ nDL eD7
          have gm : Go (D :: B) H8 (upd H8 D (.lst (ws ++ [v]))) := Go.refl.at (List.mem_cons_self ..)
          have lw := hA5.len
          have lb := jb _ _ _ iv1
          refine ⟨ws, eD8, sz (by omega), acc ++ [yy], u, ws ++ [v], k8, (g57.trans (g8.w fun a ha => List.mem_cons_of_mem _ ha)).at (List.mem_cons_self ..), l8.upL nDL, upd_same, ((hA5.g (gB.trans (g8.w r7.lb))).app (.one d8)).g gm⟩
      · obtain ⟨acc, j, ws, iv1, g5, lf5, eD5, hA5⟩ := pp
        exact ⟨acc, j, ws, jE acc j iv1, dom4 H5 g5, lf5, eD5, hA5⟩
  · obtain ⟨acc, j, ws, iv, g, lf, eD, hA⟩ := p
    exact q acc j D ws H' (iE acc j iv) (ga.trans g) lf (ga.free hD) eD hA⟩
/-- a comprehension that draws nothing: what it makes, item by item -/
theorem lcD {gd : DG} {ft : DTt} {fe : DE} {vs : List Nat} {δ : List Sl} {ds : List PyData} {m : Nat} {K : List PyData → Nat → Prop} (h : ds.length ≤ 100000) (g : Nat → Option PyData)
    (hs : ∀ (i : Nat) d (Ky : PyData → Nat → Prop) (Kn : Nat → Prop), ds[i]? = some d → (∀ y, g i = some y → Ky y m) → (g i = none → Kn m) → gd d (wipeD δ vs) fun δ2 => ft δ2 m fun b k => if b = true then fe δ2 k Ky else Kn k)
    (hk : K ((List.range ds.length).filterMap g) m) : ds.length ≤ 100000 ∧ ∃ Iv : Nat → List PyData → Nat → Prop, Iv 0 [] m ∧
  (∀ i d acc j, ds[i]? = some d → Iv i acc j → gd d (wipeD δ vs) fun δ2 => ft δ2 j fun b k => if b = true then fe δ2 k fun y l => Iv (i + 1) (acc ++ [y]) l else Iv (i + 1) acc k) ∧ ∀ acc j, Iv ds.length acc j → K acc j := by
  refine ⟨h, fun i acc j => acc = (List.range i).filterMap g ∧ j = m, ⟨rfl, rfl⟩, fun i d acc j ed ⟨ea, ej⟩ => ?_, fun acc j ⟨ea, ej⟩ => by rw [ea, ej]; exact hk⟩
  rw [ej]
  refine hs i d _ _ ed (fun y ey => ⟨?_, rfl⟩) (fun e => ⟨?_, rfl⟩)
  · rw [ea, List.range_succ, List.filterMap_append]
    simp only [List.filterMap_cons, List.filterMap_nil, ey]
  · rw [ea, List.range_succ, List.filterMap_append]
    simp only [List.filterMap_cons, List.filterMap_nil, e, List.append_nil]
theorem fmM {α β : Type} (xs : List α) (f : α → β) : (List.range xs.length).filterMap (fun i => (xs[i]?).map f) = xs.map f := by
  have : (fun i : Nat => (xs[i]?).map f) = fun i : Nat => ((xs.map f)[i]?) := by
    funext i
    rw [List.getElem?_map]
  rw [this]
  exact fm_all (by rw [List.length_map])
theorem mpG {α : Type} {xs : List α} {f : α → PyData} {i : Nat} {d : PyData} (h : (xs.map f)[i]? = some d) : ∃ x, xs[i]? = some x ∧ d = f x := by
  rw [List.getElem?_map] at h
  cases e : xs[i]? with
  | none => rw [e] at h; cases h
  | some x => rw [e] at h; exact ⟨x, rfl, (Option.some.inj h).symm⟩
theorem mem_i {α : Type} {xs : List α} {i : Nat} {x : α} (h : xs[i]? = some x) : x ∈ xs := List.mem_of_getElem? h
end Z

set_option Elab.async false
set_option linter.all false
set_option maxRecDepth 100000
set_option maxHeartbeats 400000
namespace Z
open PySem PySem.Spec PyProof.Rows L2
variable [TabCtx]
/-! ### statements -/
structure DD where
  nx : List Sl → Nat → Prop
  rt : PyData → Nat → Prop
  rn : List PyData → Nat → Prop
  bk : List Sl → Nat → Prop := fun _ _ => False
  ct : List Sl → Nat → Prop := fun _ _ => False
abbrev DS := DD → List Sl → Nat → Prop
abbrev FR := List Addr → List Addr → Hp → Prop
structure FrOk (L : List Addr) (Fr : FR) : Prop where
  go : ∀ {B O : List Addr} {H H' : Hp}, (∀ a ∈ O, a ∈ B) → Fr B O H → Go (L ++ O) H H' → Fr B O H'
  nw : ∀ {B O : List Addr} {H H' : Hp} {a : Addr}, Fr B O H → H a = none → Go L H H' → Fr (a :: B) (a :: O) H'
  sub : ∀ {B O B' O' : List Addr} {H : Hp}, Fr B O H → (∀ a ∈ B', a ∈ B) → (∀ a ∈ O', a ∈ O) → Fr B' O' H
structure At (L B0 : List Addr) (Fr : FR) (B O : List Addr) (σ : L2.St) (H : Hp) (δ : List Sl) (n : Nat) : Prop where
  fo : FrOk L Fr
  sb : ∀ a ∈ B0, a ∈ B ∧ a ∉ O
  fr : Fr B O H
  rel : Rel L B O H σ δ n
structure Em (L B0 : List Addr) (Fr : FR) (D : Ends) (E : DD) : Prop where
  nx : ∀ {B O σ H δ n}, E.nx δ n → At L B0 Fr B O σ H δ n → D.nx σ H
  rt : ∀ {v H d n}, E.rt d n → Fr [] [] H → Lfs L H n → Dt B0 H v d → D.rt v H
  rn : ∀ {a vs H xs n}, E.rn xs n → Fr [a] [a] H → Lfs L H n → H a = some (.lst vs) → DtA (a :: B0) H vs xs → D.rt (.ref a) H
  bk : ∀ {B O σ H δ n}, E.bk δ n → At L B0 Fr B O σ H δ n → D.bk σ H
  ct : ∀ {B O σ H δ n}, E.ct δ n → At L B0 Fr B O σ H δ n → D.ct σ H
structure SS (T : TS) (f : DS) : Prop where
  run : ∀ {L B0 Fr B O σ H δ n D E}, At L B0 Fr B O σ H δ n → f E δ n → Em L B0 Fr D E → T D σ H
section
variable {L B0 : List Addr} {Fr : FR} {B O : List Addr} {σ σ' : L2.St} {H H' : Hp} {δ δ' : List Sl} {n m : Nat}
theorem At.go (a : At L B0 Fr B O σ H δ n) (g : Go L H H') (f : Lfs L H' m) : At L B0 Fr B O σ H' δ m :=
  ⟨a.fo, a.sb, a.fo.go (fun x hx => (a.rel.ob x hx).1) a.fr (g.w fun x hx => List.mem_append_left _ hx), a.rel.go g f⟩
theorem At.re (a : At L B0 Fr B O σ H δ n) (r : Rel L B O H σ' δ' m) : At L B0 Fr B O σ' H δ' m := ⟨a.fo, a.sb, a.fr, r⟩
end
def fNext : DS := fun E δ n => E.nx δ n
def fSeq (a b : DS) : DS := fun E δ n => a { E with nx := b E } δ n
def fRet (fe : DE) : DS := fun E δ n => fe δ n E.rt
def fRetN : DS := fun E δ n => E.rt .none n
def fRetSN (f : DI) : DS := fun E δ n => f δ n E.rn
def fRetO (i : Nat) : DS := fun E δ n => ∃ xs, δ[i]? = some (.o xs) ∧ E.rn xs n
def fIfS (c : DTt) (a b : DS) : DS := fun E δ n => c δ n fun t m => if t = true then a E δ m else b E δ m
def fAsg (fe : DE) (gd : DG) : DS := fun E δ n => fe δ n fun d m => gd d δ fun δ' => E.nx δ' m
def fAsgO (i : Nat) (f : DI) : DS := fun E δ n => f δ n fun xs m => E.nx (δ.set i (.o xs)) m
def fDrop (fe : DE) : DS := fun E δ n => fe δ n fun _ m => E.nx δ m
def fCut (a b : DS) : DS := fun E δ n => ∃ Mid : List Sl → Nat → Prop, a { E with nx := Mid } δ n ∧ ∀ δ' n', Mid δ' n' → b E δ' n'
def fFrz (i : Nat) (a : DS) : DS := fun E δ n => ∃ xs, δ[i]? = some (.o xs) ∧ a E (δ.set i (.d (.list xs))) n
def fAugI (g : Int → Int → Int) (i : Nat) (fe : DE) : DS := fun E δ n => ∃ z, δ[i]? = some (.d (.int z)) ∧ fe δ n fun d m => ∃ y, d = .int y ∧ E.nx (δ.set i (.d (.int (g z y)))) m
def fPar (i j : Nat) (fa : DA) : DS := fun E δ n => fa δ n fun xs m => ∃ x y, xs = [.d x, .d y] ∧ E.nx ((δ.set i (.d x)).set j (.d y)) m
def fApp (i : Nat) (fe : DE) : DS := fun E δ n => ∃ xs, δ[i]? = some (.o xs) ∧ xs.length ≤ 100000 ∧ fe δ n fun d m => E.nx (δ.set i (.o (xs ++ [d]))) m
def fSetO (i : Nat) (fe fi : DE) : DS := fun E δ n => ∃ xs, δ[i]? = some (.o xs) ∧ fe δ n fun d m => fi δ m fun z k => ∃ y j, z = .int y ∧ ixN xs.length y = some j ∧ E.nx (δ.set i (.o (xs.set j d))) k
def fFor (fi : DI) (gd : DG) (fb : DS) : DS := fun E δ n => fi δ n fun ds m => ∃ Iv : Nat → List Sl → Nat → Prop, Iv 0 δ m ∧ (∀ i d δ' j, ds[i]? = some d → Iv i δ' j → gd d δ' fun δ2 => fb { E with nx := Iv (i + 1), ct := Iv (i + 1), bk := E.nx } δ2 j) ∧ ∀ δ' j, Iv ds.length δ' j → E.nx δ' j
def fWhile (ft : DTt) (fb : DS) : DS := fun E δ n => ∃ Iv : Nat → List Sl → Nat → Prop, (∃ m, Iv m δ n) ∧ ∀ m δ' j, Iv m δ' j → ft δ' j fun b k => if b = true then fb { E with nx := fun δ2 l => ∃ m', m' < m ∧ Iv m' δ2 l, ct := fun δ2 l => ∃ m', m' < m ∧ Iv m' δ2 l, bk := E.nx } δ' k else E.nx δ' k
section
variable {T U : TS} {a b : DS} {te : TE} {fe : DE} {tt : TT} {ft : DTt} {fi : DI} {K : PySem.W.Frag}
theorem ss_next : SS tNext fNext := ⟨fun at' k e => e.nx k at'⟩
theorem ss_seq (h1 : SS T a) (h2 : SS U b) : SS (tSeq T U) (fSeq a b) := ⟨fun at' k e => h1.run at' k ⟨fun k2 at2 => h2.run at2 k2 e, e.rt, e.rn, e.bk, e.ct⟩⟩
theorem ss_cut (h1 : SS T a) (h2 : SS U b) : SS (Evl.tCut T U) (fCut a b) := ⟨fun {L B0 Fr B O σ H δ n D E} at' ⟨Mid, k, k2⟩ e => ⟨fun σ' H' => ∃ B' O' δ' n', Mid δ' n' ∧ At L B0 Fr B' O' σ' H' δ' n', h1.run at' k ⟨fun k2 at2 => ⟨_, _, _, _, k2, at2⟩, e.rt, e.rn, e.bk, e.ct⟩, fun σ' H' ⟨B', O', δ', n', hm, at2⟩ => h2.run at2 (k2 _ _ hm) e⟩⟩
theorem ss_ret (h : SE te fe) : SS (tRet te) (fRet fe) := ⟨fun at' k e => h.run at'.rel k fun d m v H' k2 g l dv => by
  have a2 := at'.go g l
  exact e.rt k2 (a2.fo.sub a2.fr (fun _ h => nomatch h) (fun _ h => nomatch h)) l (dv.sub fun a ha => (at'.sb a ha).1)⟩
theorem ss_retN : SS tRetN fRetN := ⟨fun at' k e => e.rt k (at'.fo.sub at'.fr (fun _ h => nomatch h) (fun _ h => nomatch h)) at'.rel.lf .non⟩
theorem ss_retSN (h : SN te fi) : SS (tRet te) (fRetSN fi) := ⟨fun at' k e => h.run at'.rel k fun xs m a vs H' k2 g l e1 e2 hA => by
  have f2 := at'.fo.nw at'.fr e1 g
  refine e.rn k2 (at'.fo.sub f2 (fun b hb => ?_) (fun b hb => ?_)) l e2 (hA.sub fun b hb => ?_)
  · rw [List.mem_singleton.mp hb]; exact List.mem_cons_self ..
  · rw [List.mem_singleton.mp hb]; exact List.mem_cons_self ..
  · rcases List.mem_cons.mp hb with z | z
    · rw [z]; exact List.mem_cons_self ..
    · exact List.mem_cons_of_mem _ (at'.sb b z).1⟩
theorem ss_retO {i : Nat} : SS (tRet (tVar i)) (fRetO i) := ⟨fun at' ⟨xs, ei, k⟩ e => by
  obtain ⟨a, vs, ea, ha, hs, hA⟩ := at'.rel.oo i xs ei
  refine ⟨_, ea, e.rn k (at'.fo.sub at'.fr (fun b hb => ?_) (fun b hb => ?_)) at'.rel.lf hs (hA.sub fun b hb => ?_)⟩
  · rw [List.mem_singleton.mp hb]; exact (at'.rel.ob a ha).1
  · rw [List.mem_singleton.mp hb]; exact ha
  · rcases List.mem_cons.mp hb with z | z
    · rw [z]; exact (at'.rel.ob a ha).1
    · exact (at'.sb b z).1⟩
theorem ss_if (hc : ST tt ft) (h1 : SS T a) (h2 : SS U b) : SS (tIfS tt T U) (fIfS ft a b) := ⟨fun at' k e => hc.run at'.rel k fun t m H' k2 g l => by
  cases t with
  | true => exact iteT (h1.run (at'.go g l) k2 e)
  | false => exact iteF (h2.run (at'.go g l) k2 e)⟩
theorem ss_asg {tg : List Nat} {g : TG} {gd : DG} (h : SE te fe) (hg : SG tg g gd) : SS (tAsg te g) (fAsg fe gd) := ⟨fun at' k e => h.run at'.rel k fun d m v H' k2 g l dv => by
  have a2 := at'.go g l
  exact hg.run a2.rel dv k2 fun σ' δ' k3 r3 _ => e.nx k3 (a2.re r3)⟩
theorem ss_asgO {i : Nat} (h : SN te fi) : SS (tAsg te (gName i)) (fAsgO i fi) := ⟨fun at' k e => h.run at'.rel k fun xs m a vs H' k2 g l e1 e2 hA => by
  refine e.nx k2 ⟨at'.fo, fun b hb => ⟨List.mem_cons_of_mem _ (at'.sb b hb).1, fun z => ?_⟩, at'.fo.nw at'.fr e1 g, at'.rel.mk_o i e1 g e2 hA l⟩
  rcases List.mem_cons.mp z with z | z
  · rw [z] at hb
    exact (at'.rel.bk a (at'.sb a hb).1).1 e1
  · exact (at'.sb b hb).2 z⟩
theorem ss_drop (h : SE te fe) : SS (tDrop te) (fDrop fe) := ⟨fun at' k e => h.run at'.rel k fun d m v H' k2 g l dv => e.nx k2 (at'.go g l)⟩
theorem ss_frz (i : Nat) (h : SS T a) : SS T (fFrz i a) := ⟨fun at' ⟨xs, ei, k⟩ e => by
  obtain ⟨c, hc, r⟩ := at'.rel.frz ei
  refine h.run ⟨at'.fo, fun b hb => ?_, at'.fo.sub at'.fr (fun b hb => (List.mem_filter.mp hb).1) (fun b hb => (List.mem_filter.mp hb).1), r⟩ k e
  have q : b ≠ c := fun z => (at'.sb b hb).2 (by rw [z]; exact hc)
  exact ⟨List.mem_filter.mpr ⟨(at'.sb b hb).1, by simpa using q⟩, fun z => (at'.sb b hb).2 (List.mem_filter.mp z).1⟩⟩
theorem ss_augI {i : Nat} {g : Int → Int → Int} (h : SE te fe) : SS (tAug i te (ipI g)) (fAugI g i fe) := ⟨fun at' ⟨z, ei, k⟩ e => by
  obtain ⟨v, ev, dv⟩ := at'.rel.dd i _ ei
  cases dv
  refine ⟨_, ev, h.run at'.rel k fun d m v H' ⟨y, e2, k2⟩ g l dv => ?_⟩
  subst e2
  cases dv
  have a2 := at'.go g l
  exact ⟨z, y, rfl, rfl, e.nx k2 (a2.re (a2.rel.set_d i (.int _)))⟩⟩
theorem ss_par {i j : Nat} {ta : TA} {fa : DA} (h : SA ta fa) : SS (tPar i j ta) (fPar i j fa) := ⟨fun at' k e => h.run at'.rel k fun xs m vs H' ⟨x, y, e1, k2⟩ g l hv => by
  subst e1
  cases hv with
  | d h1 h2 => cases h2 with
    | d h2 h3 =>
      cases h3
      have a2 := at'.go g l
      exact ⟨_, _, rfl, e.nx k2 (a2.re ((a2.rel.set_d i h1).set_d j h2))⟩⟩
theorem At.mut {L B0 : List Addr} {Fr : FR} {B O : List Addr} {σ : L2.St} {H : Hp} {δ : List Sl} {n : Nat} (at' : At L B0 Fr B O σ H δ n) {i : Nat} {xs ys : List PyData} {a : Addr} {ws : List V} (ei : δ[i]? = some (.o xs)) (ea : σ[i]? = some (some (.ref a))) (ha : a ∈ O) (hA : DtA B H ws ys) : At L B0 Fr B O σ (upd H a (.lst ws)) (δ.set i (.o ys)) n :=
  ⟨at'.fo, at'.sb, at'.fo.go (fun b hb => (at'.rel.ob b hb).1) at'.fr (Go.refl.at (List.mem_append_right _ ha) (by
    obtain ⟨b, vs, e1, _, hs, _⟩ := at'.rel.oo i xs ei
    rw [ea] at e1
    cases e1
    exact ⟨_, hs, trivial⟩)), at'.rel.mut ei ea hA⟩
theorem ss_app {i : Nat} (h : SE te fe) : SS (tDrop (tBM K "list" rAppend (tVar i) (tCons te tNil))) (fApp i fe) := ⟨fun at' ⟨xs, ei, lx, k⟩ e => by
  obtain ⟨a, vs, ea, ha, hs, hA⟩ := at'.rel.oo i xs ei
  refine ⟨_, ea, .inl ⟨rfl, vs, SqL.of hs⟩, h.run at'.rel k fun d m v H' k2 g l dv => ?_⟩
  have a2 := at'.go g l
  have hs2 := g.k a _ (at'.rel.ob a ha).2 hs
  have hA2 := hA.g (g.w at'.rel.lb)
  have lv := hA.len
  exact ⟨a, vs, v, rfl, rfl, hs2, sz (by omega), e.nx k2 (a2.mut ei ea ha (hA2.app (.one dv)))⟩⟩
theorem ss_setO {i : Nat} {ti : TE} {fz : DE} (h : SE te fe) (hi : SE ti fz) : SS (tAsg te (gSub (tVar i) ti rSetL)) (fSetO i fe fz) := ⟨fun at' ⟨xs, ei, k⟩ e => by
  obtain ⟨a, vs, ea, ha, hs, hA⟩ := at'.rel.oo i xs ei
  refine h.run at'.rel k fun d m v H' k2 g l dv => ⟨_, ea, ?_⟩
  have a2 := at'.go g l
  refine hi.run a2.rel k2 fun z m2 u H2 ⟨y, j, e1, e2, k3⟩ g2 l2 du => ?_
  subst e1
  cases du
  have a3 := a2.go g2 l2
  have g12 := g.trans g2
  have hs3 := g12.k a _ (at'.rel.ob a ha).2 hs
  have hA3 := hA.g (g12.w at'.rel.lb)
  refine ⟨a, vs, y, j, rfl, rfl, hs3, by rw [hA.len]; exact e2, e.nx k3 (a3.mut ei ea ha (hA3.set j (dv.g (g2.w at'.rel.lb))))⟩⟩
/-- the frame of a loop -/
theorem frLoop {L B1 : List Addr} {H1 : Hp} {Fr : FR} (lb : ∀ a ∈ L, a ∈ B1) (fo : FrOk L Fr) : FrOk L (fun B O H => Fr B O H ∧ Go B1 H1 H ∧ (∀ a ∈ B, a ∈ B1 ∨ H1 a = none)) where
  go := fun ho ⟨f, g, h⟩ g2 => ⟨fo.go ho f g2, ⟨fun a o na m e => g2.k0 a o (fun z => by
    rcases List.mem_append.mp z with z | z
    · exact na (lb a z)
    · rcases h a (ho a z) with q | q
      · exact na q
      · rw [q] at e; cases e) m (g.k0 a o na m e), fun a e => g2.d a (g.d a e), fun z => g2.t (g.t z), goU g.d g.u g2.u⟩, h⟩
  nw := fun ⟨f, g, h⟩ e g2 => ⟨fo.nw f e g2, g.trans (g2.w lb), fun b hb => by
    rcases List.mem_cons.mp hb with z | z
    · rw [z]; exact .inr (g.free e)
    · exact h b z⟩
  sub := fun ⟨f, g, h⟩ s1 s2 => ⟨fo.sub f s1 s2, g, fun b hb => h b (s1 b hb)⟩
def fParO (i j : Nat) (fa fb : DI) : DS := fun E δ n => fa δ n fun xs m => fb δ m fun ys k => E.nx ((δ.set i (.o xs)).set j (.o ys)) k
theorem ss_parO {i j : Nat} {ta tb : TE} {fa fb : DI} (ha : SN ta fa) (hb : SN tb fb) : SS (tPar i j (tCons ta (tCons tb tNil))) (fParO i j fa fb) := ⟨fun at' k e => ha.run at'.rel k fun xs m a vs H' k2 g l e1 e2 hA => by
  have r1 := at'.rel.mk_o i e1 g e2 hA l
  have r0 := at'.rel.fr e1 g (by rw [e2]; exact ⟨(fun z => nomatch z), fun _ z => nomatch z⟩) l
  refine hb.run r0 k2 fun ys k b ws H2 k3 g2 l2 f1 f2 hB => ⟨_, _, rfl, ?_⟩
  have h2 := r1.mk_o j f1 g2 f2 hB l2
  have na : ∀ c ∈ _, c ≠ a := fun c hc z => by
    rw [z] at hc
    exact (at'.rel.bk a (at'.sb a hc).1).1 e1
  have nb : ∀ c ∈ _, c ≠ b := fun c hc z => by
    rw [z] at hc
    exact (at'.rel.bk b (at'.sb b hc).1).1 (g.free f1)
  refine e.nx k3 ⟨at'.fo, fun c hc => ⟨List.mem_cons_of_mem _ (List.mem_cons_of_mem _ (at'.sb c hc).1), fun z => ?_⟩, at'.fo.nw (at'.fo.nw at'.fr e1 g) f1 g2, h2⟩
  rcases List.mem_cons.mp z with z | z
  · exact nb c hc z
  · rcases List.mem_cons.mp z with z | z
    · exact na c hc z
    · exact (at'.sb c hc).2 z⟩
def fPar3 (i j l : Nat) (fa : DA) : DS := fun E δ n => fa δ n fun xs m => ∃ x y z, xs = [.d x, .d y, .d z] ∧ E.nx (((δ.set i (.d x)).set j (.d y)).set l (.d z)) m
theorem ss_par3 {i j l : Nat} {ta : TA} {fa : DA} (h : SA ta fa) : SS (tPar3 i j l ta) (fPar3 i j l fa) := ⟨fun at' k e => h.run at'.rel k fun xs m vs H' ⟨x, y, z, e1, k2⟩ g l hv => by
  subst e1
  cases hv with
  | d h1 h2 => cases h2 with
    | d h2 h3 => cases h3 with
      | d h3 h4 =>
        cases h4
        have a2 := at'.go g l
        exact ⟨_, _, _, rfl, e.nx k2 (a2.re (((a2.rel.set_d i h1).set_d j h2).set_d _ h3))⟩⟩
def fExt (i : Nat) (fe : DE) : DS := fun E δ n => ∃ xs, δ[i]? = some (.o xs) ∧ fe δ n fun d m => ∃ ys, d = .list ys ∧ xs.length + ys.length ≤ 100000 ∧ E.nx (δ.set i (.o (xs ++ ys))) m
theorem ss_ext {i : Nat} (h : SE te fe) : SS (tDrop (tBM K "list" rExtend (tVar i) (tCons te tNil))) (fExt i fe) := ⟨fun at' ⟨xs, ei, k⟩ e => by
  obtain ⟨a, vs, ea, ha, hs, hA⟩ := at'.rel.oo i xs ei
  refine ⟨_, ea, .inl ⟨rfl, vs, SqL.of hs⟩, h.run at'.rel k fun d m v H' ⟨ys, e1, l1, k2⟩ g l dv => ?_⟩
  subst e1
  have a2 := at'.go g l
  have hs2 := g.k a _ (at'.rel.ob a ha).2 hs
  have hA2 := hA.g (g.w at'.rel.lb)
  have lv := hA.len
  obtain ⟨b, ws, rfl, nb, hb, hB⟩ := dv.lst2
  have lw := hB.len
  exact ⟨a, b, vs, ws, rfl, rfl, hs2, hb, Nat.le_of_lt (sz (by omega)), e.nx k2 (a2.mut ei ea ha (hA2.app hB))⟩⟩
/-- extend by a tuple is wanted as a list; insert -/
def rIns : V → List V → Hp → VK → Prop := fun x vs H Q => ∃ (l : Addr) (xs : List V) (i : Int) (y : V), x = .ref l ∧ vs = [.int i, y] ∧ H l = some (.lst xs) ∧ xs.length < sizeLine ∧ 0 ≤ i ∧ i < 2 ^ 63 ∧ Q .non (upd H l (.lst (xs.take i.toNat ++ [y] ++ xs.drop i.toNat)))
def fIns (i : Nat) (fz fe : DE) : DS := fun E δ n => ∃ xs, δ[i]? = some (.o xs) ∧ xs.length ≤ 100000 ∧ fz δ n fun z m => fe δ m fun d k => ∃ y, z = .int y ∧ 0 ≤ y ∧ y < 2 ^ 63 ∧ E.nx (δ.set i (.o (xs.take y.toNat ++ [d] ++ xs.drop y.toNat))) k
theorem ss_ins {i : Nat} {tz : TE} {fz : DE} (hz : SE tz fz) (h : SE te fe) : SS (tDrop (tBM K "list" rIns (tVar i) (tCons tz (tCons te tNil)))) (fIns i fz fe) := ⟨fun at' ⟨xs, ei, lx, k⟩ e => by
  obtain ⟨a, vs, ea, ha, hs, hA⟩ := at'.rel.oo i xs ei
  refine ⟨_, ea, .inl ⟨rfl, vs, SqL.of hs⟩, hz.run at'.rel k fun z m u H1 k1 g1 l1 du => ?_⟩
  have a1 := at'.go g1 l1
  refine h.run a1.rel k1 fun d m v H' ⟨y, e1, y0, y1, k2⟩ g l dv => ?_
  subst e1
  cases du
  have a2 := a1.go g l
  have g12 := g1.trans g
  have hs2 := g12.k a _ (at'.rel.ob a ha).2 hs
  have hA2 := hA.g (g12.w at'.rel.lb)
  have lv := hA.len
  exact ⟨a, vs, y, v, rfl, rfl, hs2, sz (by omega), y0, y1, e.nx k2 (a2.mut ei ea ha (((DtA.take _ hA2).app (.one dv)).app (DtA.drop _ hA2)))⟩⟩
/-- -x -/
theorem se_neg {te : TE} {fe : DE} (h : SE te fe) : SE (tUn (rU fun i => .int (-i)) te) (fUn (fun x K => ∃ i, x = .int i ∧ K (.int (-i))) fe) := ⟨fun r k q => h.run r k fun d m v H1 ⟨i, e, k1⟩ g1 l1 d1 => by
  subst e
  cases d1
  exact ⟨i, rfl, q _ _ _ _ k1 g1 l1 (.int _)⟩⟩
theorem ss_for {wi : TI} {tg : List Nat} {g : TG} {gd : DG} (hi : SI true wi fi) (hg : SG tg g gd) (hb : SS T a) : SS (tFor wi g T) (fFor fi gd a) := ⟨fun {L B0 Fr B O σ H δ n D E} at' k e => hi.run at'.rel k fun ds m J H1 G Y ⟨Iv, i0, is, iE⟩ g1 l1 w G1 st it => by
  have a1 := at'.go g1 l1
  have fo2 := frLoop (B1 := B) (H1 := H1) at'.rel.lb at'.fo
  have dn : ∀ {B' O' σ' H' δ' j}, At L B0 (fun C O H => Fr C O H ∧ Go B H1 H ∧ (∀ a ∈ C, a ∈ B ∨ H1 a = none)) B' O' σ' H' δ' j → At L B0 Fr B' O' σ' H' δ' j := fun a => ⟨at'.fo, a.sb, a.fr.1, a.rel⟩
  refine for_it w (fun i σ' H' => ∃ B' O' δ' j, Iv i δ' j ∧ At L B0 (fun C O H => Fr C O H ∧ Go B H1 H ∧ (∀ a ∈ C, a ∈ B ∨ H1 a = none)) B' O' σ' H' δ' j) ⟨B, O, δ, m, i0, ⟨fo2, a1.sb, ⟨a1.fr, Go.refl, fun a ha => .inl ha⟩, a1.rel⟩⟩ (fun i σ' H' _ p => ?_) (fun i x σ' H' H'' hi' p y => ?_) (fun σ' H' p => ?_)
  · obtain ⟨B', O', δ', j, _, a2⟩ := p
    exact st B H' (fun a ha => .inl ha) a2.fr.2.1
  · obtain ⟨B', O', δ', j, iv, a2⟩ := p
    obtain ⟨s2, d, ed, dd⟩ := it B B' i H' x H'' (fun a ha => .inl ha) a2.fr.2.2 a2.rel.bk a2.fr.2.1 hi' y
    have a3 := a2.go (Go.of s2) (a2.rel.lf.same s2)
    refine hg.run a3.rel dd (is i d δ' j ed iv) fun σ2 δ2 k2 r2 _ => hb.run (a3.re r2) k2 ⟨fun k a => ⟨_, _, _, _, k, a⟩, fun k f => e.rt k f.1, fun k f => e.rn k f.1, fun k a => e.nx k (dn a), fun k a => ⟨_, _, _, _, k, a⟩⟩
  · obtain ⟨B', O', δ', j, iv, a2⟩ := p
    exact e.nx (iE δ' j iv) (dn a2)⟩
theorem ss_while (hc : ST tt ft) (hb : SS T a) : SS (tWhile tt T) (fWhile ft a) := ⟨fun {L B0 Fr B O σ H δ n D E} at' ⟨Iv, ⟨m0, i0⟩, is⟩ e => by
  refine ⟨fun m σ' H' => ∃ B' O' δ' j, Iv m δ' j ∧ At L B0 Fr B' O' σ' H' δ' j, ⟨m0, _, _, _, _, i0, at'⟩, fun m σ' H' ⟨B', O', δ', j, iv, a2⟩ => ?_⟩
  refine hc.run a2.rel (is m δ' j iv) fun b k H2 k2 g l => ?_
  cases b with
  | false => exact iteF (e.nx k2 (a2.go g l))
  | true =>
    refine iteT ⟨fun σ3 H3 => ∃ m', m' < m ∧ ∃ B' O' δ' j, Iv m' δ' j ∧ At L B0 Fr B' O' σ3 H3 δ' j, fun σ3 H3 ⟨m', lt, p⟩ => ⟨m', lt, p⟩, hb.run (a2.go g l) k2 ⟨fun k a => ?_, e.rt, e.rn, e.nx, fun k a => ?_⟩⟩
    · obtain ⟨m', lt, iv⟩ := k
      exact ⟨m', lt, _, _, _, _, iv, a⟩
    · obtain ⟨m', lt, iv⟩ := k
      exact ⟨m', lt, _, _, _, _, iv, a⟩⟩
end
/-! ### a def by its data alone -/
def startD (N : List Str) (ds : List Sl) : List Sl := ds ++ List.replicate (N.length - ds.length) .no
theorem VrA.get {L B : List Addr} {H : Hp} {vs : List V} {ds : List Sl} (h : VrA L B H vs ds) : ∀ (i : Nat) s, ds[i]? = some s → ∃ v, vs[i]? = some v ∧ ((∃ x, s = .d x ∧ Dt B H v x) ∨ (s = .l ∧ ∃ a, a ∈ L ∧ v = .ref a)) := by
  induction h with
  | nil => intro i s e; simp at e
  | d h _ ih =>
    intro i s e
    cases i with
    | zero => cases e; exact ⟨_, rfl, .inl ⟨_, rfl, h⟩⟩
    | succ i => exact ih i s (by simpa using e)
  | l h _ ih =>
    intro i s e
    cases i with
    | zero => cases e; exact ⟨_, rfl, .inr ⟨rfl, _, h, rfl⟩⟩
    | succ i => exact ih i s (by simpa using e)
theorem start_rel {L B : List Addr} {H : Hp} {vs : List V} {ds : List Sl} {n : Nat} (N : List Str) (h : VrA L B H vs ds) (hB : Bk B H) (lb : ∀ a ∈ L, a ∈ B) (lf : Lfs L H n) : Rel L B [] H (L2.start N vs) (startD N ds) n := by
  have hl := h.len
  have key : ∀ (i : Nat) s, (startD N ds)[i]? = some s → s ≠ .no → ds[i]? = some s ∧ ∀ v, vs[i]? = some v → (L2.start N vs)[i]? = some (some v) := by
    intro i s e ns
    unfold startD at e
    rw [List.getElem?_append] at e
    by_cases c : i < ds.length
    · rw [if_pos c] at e
      refine ⟨e, fun v ev => ?_⟩
      unfold L2.start
      rw [List.getElem?_append, if_pos (by rw [List.length_map, hl]; exact c), List.getElem?_map, ev]
      rfl
    · rw [if_neg c] at e
      have := List.mem_of_getElem? e
      rw [List.mem_replicate] at this
      exact absurd this.2 ns
  exact {
    len := by unfold startD L2.start; simp [hl]
    dd := fun i x e => by
      obtain ⟨e1, f⟩ := key i _ e (fun z => nomatch z)
      obtain ⟨v, ev, q⟩ := h.get i _ e1
      rcases q with ⟨y, ey, dy⟩ | ⟨z, _⟩
      · cases ey
        exact ⟨v, f v ev, dy⟩
      · cases z
    oo := fun i xs e => by
      obtain ⟨e1, f⟩ := key i _ e (fun z => nomatch z)
      obtain ⟨v, ev, q⟩ := h.get i _ e1
      rcases q with ⟨y, ey, dy⟩ | ⟨z, _⟩
      · cases ey
      · cases z
    uq := fun i j xs ys a e => by
      obtain ⟨e1, f⟩ := key i _ e (fun z => nomatch z)
      obtain ⟨v, ev, q⟩ := h.get i _ e1
      rcases q with ⟨y, ey, dy⟩ | ⟨z, _⟩
      · cases ey
      · cases z
    uk := fun i j t t' xs ys a e => by
      obtain ⟨e1, f⟩ := key i _ e (fun z => nomatch z)
      obtain ⟨v, ev, q⟩ := h.get i _ e1
      rcases q with ⟨y, ey, dy⟩ | ⟨z, _⟩
      · cases ey
      · cases z
    kk := fun i tp xs e => by
      obtain ⟨e1, f⟩ := key i _ e (fun z => nomatch z)
      obtain ⟨v, ev, q⟩ := h.get i _ e1
      rcases q with ⟨y, ey, dy⟩ | ⟨z, _⟩
      · cases ey
      · cases z
    ll := fun i e => by
      obtain ⟨e1, f⟩ := key i _ e (fun z => nomatch z)
      obtain ⟨v, ev, q⟩ := h.get i _ e1
      rcases q with ⟨y, ey, dy⟩ | ⟨z, a, ha, rfl⟩
      · cases ey
      · exact ⟨a, ha, f _ ev⟩
    vv := fun i u e => by
      obtain ⟨e1, f⟩ := key i _ e (fun z => nomatch z)
      obtain ⟨v, ev, q⟩ := h.get i _ e1
      rcases q with ⟨y, ey, dy⟩ | ⟨z, _⟩
      · cases ey
      · cases z
    bk := hB
    ob := fun _ h => nomatch h
    lb := lb
    lf := lf }
theorem frDef {L : List Addr} {H0 : Hp} : FrOk L (fun B O H => Go L H0 H ∧ ∀ a ∈ O, H0 a = none) where
  go := fun _ ⟨g, h⟩ g2 => ⟨⟨fun a o na m e => g2.k0 a o (fun z => by
    rcases List.mem_append.mp z with z | z
    · exact na z
    · rw [h a z] at e; cases e) m (g.k0 a o na m e), fun a e => g2.d a (g.d a e), fun z => g2.t (g.t z), goU g.d g.u g2.u⟩, h⟩
  nw := fun ⟨g, h⟩ e g2 => ⟨g.trans g2, fun b hb => by
    rcases List.mem_cons.mp hb with z | z
    · rw [z]; exact g.free e
    · exact h b z⟩
  sub := fun ⟨g, h⟩ _ s2 => ⟨g, fun b hb => h b (s2 b hb)⟩
section
variable {P : Program} {w : World} {K : PySem.W.Frag} {mg : Str → Option Value} {base : Heap} {x qual : Str} {st : Stmt} {f : Addr} {fd : FuncData} {N ps : List Str} {k : Nat}
theorem okD {R : List Sl → Nat → DQ → Prop} (F : Fun K x qual st f fd) (S : FnScope N ps (defScope st)) (fs : DS)
    (hbody : ∀ (cdv : Value) (A : Around) (outer : List Env) (s : Shared) (H : Hp) (E : XK), Room k (A.deeper (envOfC qual (defScope st) s.heap.objs.size f cdv)) → ∃ t, PSs (cxOf CX0 P w K mg base N qual (defScope st) f cdv A outer s H E).nox (defBody st) t ∧ SS t fs)
    (len : ∀ ds n Q, R ds n Q → ds.length = ps.length) (hd : ∀ ds n Q, R ds n Q → fs { nx := fun _ m => Q .none m, rt := Q, rn := fun xs m => Q (.list xs) m } (startD N ds) n) : FnOk P w K mg base CX0 (k + 1) f fd ps (spD R) := by
  refine F.ok S (fun vs H Q E h => ?_) (fun cdv A outer s H vs Q E hr h => ?_)
  · obtain ⟨L, B, ds, n, K', hv, _, _, _, hR, _⟩ := h
    rw [hv.len]
    exact len ds n K' hR
  · obtain ⟨L, B, ds, n, K', hv, hB, lb, lf, hR, q⟩ := h
    obtain ⟨t, ht, hs⟩ := hbody cdv A outer s H E hr
    refine ⟨t, ht, hs.run (L := L) (B0 := B) (B := B) (O := []) (Fr := fun B O H' => Go L H H' ∧ ∀ a ∈ O, H a = none) ⟨frDef, fun a ha => ⟨ha, (fun h => nomatch h)⟩, ⟨Go.refl, (fun _ h => nomatch h)⟩, start_rel N hv hB lb lf⟩ (hd ds n K' hR) ⟨fun k a => ?_, fun k f l d => ?_, fun k f l e hA => ?_, fun h _ => h.elim, fun h _ => h.elim⟩⟩
    · exact q _ _ _ _ k a.fr.1 a.rel.lf .non
    · exact q _ _ _ _ k f.1 l d
    · exact q _ _ _ _ k f.1 l (.lst (hB.ne (f.2 _ (List.mem_singleton.mpr rfl))) e hA.un)
/-- a def that tells a new list -/
theorem okN {R : List Sl → Nat → (List PyData → Nat → Prop) → Prop} (F : Fun K x qual st f fd) (S : FnScope N ps (defScope st)) (fs : DS)
    (hbody : ∀ (cdv : Value) (A : Around) (outer : List Env) (s : Shared) (H : Hp) (E : XK), Room k (A.deeper (envOfC qual (defScope st) s.heap.objs.size f cdv)) → ∃ t, PSs (cxOf CX0 P w K mg base N qual (defScope st) f cdv A outer s H E).nox (defBody st) t ∧ SS t fs)
    (len : ∀ ds n Q, R ds n Q → ds.length = ps.length) (hd : ∀ ds n Q, R ds n Q → fs { nx := fun _ _ => False, rt := fun _ _ => False, rn := Q } (startD N ds) n) : FnOk P w K mg base CX0 (k + 1) f fd ps (spN R) := by
  refine F.ok S (fun vs H Q E h => ?_) (fun cdv A outer s H vs Q E hr h => ?_)
  · obtain ⟨L, B, ds, n, K', hv, _, _, _, hR, _⟩ := h
    rw [hv.len]
    exact len ds n K' hR
  · obtain ⟨L, B, ds, n, K', hv, hB, lb, lf, hR, q⟩ := h
    obtain ⟨t, ht, hs⟩ := hbody cdv A outer s H E hr
    refine ⟨t, ht, hs.run (L := L) (B0 := B) (B := B) (O := []) (Fr := fun B O H' => Go L H H' ∧ ∀ a ∈ O, H a = none) ⟨frDef, fun a ha => ⟨ha, (fun h => nomatch h)⟩, ⟨Go.refl, (fun _ h => nomatch h)⟩, start_rel N hv hB lb lf⟩ (hd ds n K' hR) ⟨fun k a => k.elim, fun k f l d => k.elim, fun k f l e hA => ?_, fun h _ => h.elim, fun h _ => h.elim⟩⟩
    exact q _ _ _ _ _ k f.1 l (f.2 _ (List.mem_singleton.mpr rfl)) e hA
end
/-- a new list is data, too -/
theorem spN_spD {R : List Sl → Nat → (List PyData → Nat → Prop) → Prop} {vs : List V} {H : Hp} {Q : VK} {E : XK} (h : spD (fun ds n K => R ds n fun xs m => K (.list xs) m) vs H Q E) : spN R vs H Q E := by
  obtain ⟨L, B, ds, n, K, hv, hB, lb, lf, hR, q⟩ := h
  exact ⟨L, B, ds, n, fun xs m => K (.list xs) m, hv, hB, lb, lf, hR, fun xs m a us H' k g l e1 e2 hA => q _ _ _ _ k g l (.lst (hB.ne e1) e2 hA.un)⟩
end Z

set_option Elab.async false
set_option linter.all false
set_option maxRecDepth 100000
set_option maxHeartbeats 400000
namespace Z
open PySem PySem.Spec PyProof.Rows L2
variable [TabCtx]
/-! ### list(reversed(xs)) -/
theorem lri_no_len : typeLookup (.type "list_reverseiterator") "__len__" = pure none := by rw [typeLookup_type, builtinLookup_eq_fast]; kernel_rfl
theorem lri_hint : typeLookup (.type "list_reverseiterator") "__length_hint__" = pure (some (.builtin "list_reverseiterator.__length_hint__")) := by rw [typeLookup_type, builtinLookup_eq_fast]; kernel_rfl
section
variable {prog : Program} {w : World} {A : Around}
theorem extend_rev {R S l : Addr} {items : Array Value} {res : Value} {Rz : Result → Shared → Prop} (hh : A.handled = none) (hSR : S ≠ R) (hlS : l ≠ S) (hlR : l ≠ R) :
    ∀ (k : Nat) (s : Shared) (acc : List Value) (c : Nat), k ≤ items.size → s.heap.IsRevIter R l ((k : Int) - 1) → s.heap.IsList l items → s.heap.get? S = some { cls := .type "list", dict := none, data := .seq acc.toArray c, slots := #[] } → acc.length + k ≤ 100000 →
    (∀ h' c', (∀ b o, b ≠ R → b ≠ S → s.heap.get? b = some o → h'.get? b = some o) → h'.get? S = some { cls := .type "list", dict := none, data := .seq (acc ++ (items.toList.take k).reverse).toArray c', slots := #[] } → Rz (.ok (.ret res)) { s with heap := h' }) →
    codeAny (model prog w) A (.builtin "list.extend.loop" ⟨[.ref S, .ref R, res], []⟩) Rz s := by
  intro k
  induction k with
  | zero =>
    intro s acc c hk hit hl eS la hR
    refine codeAny_builtin F.entry_extend_loop ?_
    rw [Around.under_plainId F.plain_extend_loop _]
    show wpAny _ A.in1 (pyNext (.ref R) >>= _) _ _ s
    refine wpAny_bind (wpAny_pyNext_rev_end hh (by simpa using hit) fun h' hx => ?_)
    refine wpAny_pure (hR h' c (fun b o hb _ e => hx b o hb e) ?_)
    rw [List.take_zero, List.reverse_nil, List.append_nil]
    exact hx S _ hSR eS
  | succ k ih =>
    intro s acc c hk hit hl eS la hR
    refine codeAny_builtin F.entry_extend_loop ?_
    rw [Around.under_plainId F.plain_extend_loop _]
    show wpAny _ A.in1 (pyNext (.ref R) >>= _) _ _ s
    have hk2 : k < items.size := by omega
    have hit' : s.heap.IsRevIter R l (k : Int) := by
      have : ((k + 1 : Nat) : Int) - 1 = (k : Int) := by omega
      rw [this] at hit
      exact hit
    refine wpAny_bind (wpAny_pyNext_rev_item (i := k) (x := items[k]) hit' hl (Array.getElem?_eq_getElem hk2) fun h' it' sb => ?_)
    have eS' : h'.get? S = some { cls := .type "list", dict := none, data := .seq acc.toArray c, slots := #[] } := (sb.2 S hSR).trans eS
    have lz : acc.toArray.size ≤ sizeLine := by simp only [List.size_toArray]; rw [sizeLine_eq]; omega
    show wpAny _ A.in1 (updateSeq S (·.push items[k]) >>= _) _ _ _
    refine wpAny_bind ?_
    have up : ∀ b o, b ≠ S → h'.get? b = some o → (h'.update S (Obj.mapSeq fun x => x.push items[k])).get? b = some o := fun b o hb e => (Heap.get?_update_other _ _ (Ne.symm hb)).trans e
    have eS2 := Heap.get?_update_self (Obj.mapSeq fun x => x.push items[k]) eS' rfl
    obtain ⟨c2, eS3⟩ : ∃ c2, (h'.update S (Obj.mapSeq fun x => x.push items[k])).get? S = some { cls := .type "list", dict := none, data := .seq (acc ++ [items[k]]).toArray c2, slots := #[] } := by
      rw [eS2]
      unfold Obj.mapSeq
      simp only [List.push_toArray]
      exact ⟨_, rfl⟩
    have etk : acc ++ (items.toList.take (k + 1)).reverse = (acc ++ [items[k]]) ++ (items.toList.take k).reverse := by
      rw [List.take_add_one, List.getElem?_eq_getElem (by simpa using hk2)]
      simp
    refine wpAny_updateSeq (s := { s with heap := h' }) eS' rfl (wpAny_pure ⟨plainId_quiet F.plain_extend_loop _, ih _ (acc ++ [items[k]]) c2 (by omega) (it'.at fun o e => up _ _ hSR.symm e) (hl.at fun o e => up _ _ hlS ((sb.2 l hlR).trans e)) eS3 (by simp; omega) fun h'' c' hk'' eS'' => ?_⟩) lz (by show (Array.push _ _).size ≤ sizeLine + 1; rw [Array.size_push]; omega)
    refine hR h'' c' (fun b o hb hbS e => hk'' b o hb hbS (up b o hbS ((sb.2 b hb).trans e))) ?_
    rw [etk]
    exact eS''
theorem lri_sub : isSubtype (.type "list_reverseiterator") (.type "list_reverseiterator") = pure true := by kernel_rfl
theorem call_list_rev {E : Value → Shared → Prop} {s : Shared} {R l : Addr} {items : Array Value} {Q : Value → Shared → Prop} (hh : A.handled = none) (hit : s.heap.IsRevIter R l ((items.size : Int) - 1)) (hl : s.heap.IsList l items) (hlR : l ≠ R) (hn : items.size ≤ 100000)
    (hQ : ∀ h' c, (∀ b o, b ≠ R → s.heap.get? b = some o → h'.get? b = some o) → h'.get? s.heap.objs.size = some { cls := .type "list", dict := none, data := .seq items.toList.reverse.toArray c, slots := #[] } → Q (.ref s.heap.objs.size) { s with heap := h' }) :
    wpAny (model prog w) A (call (.type "list") [.ref R]) Q E s := by
  have lR : R < s.heap.objs.size := by obtain ⟨_, o, _⟩ := hit; exact Heap.lt_size o
  have ll : l < s.heap.objs.size := by obtain ⟨_, o, _⟩ := hl; exact Heap.lt_size o
  refine callType_codes (Q₁ := fun obj s₁ => obj = .ref s.heap.objs.size ∧ s₁ = { s with heap := s.heap.push { cls := .type "list", data := .seq #[] } }) F.called_list (F.typeCall_list_1 _) F.entry_list_init
    (code_list_new _ ⟨rfl, rfl⟩) fun obj s₁ h₁ => ?_
  obtain ⟨rfl, rfl⟩ := h₁
  have hS : (s.heap.push { cls := .type "list", data := .seq #[] }).get? s.heap.objs.size = some { cls := .type "list", data := .seq #[] } := Heap.get?_push_size _ rfl
  refine ⟨⟨_, hS, rfl⟩, F.args_list_init_2 _ _, ?_⟩
  generalize hSS : s.heap.objs.size = S at *
  have up0 : ∀ b o, s.heap.get? b = some o → (s.heap.push { cls := .type "list", data := .seq #[] }).get? b = some o := fun b o e => Heap.get?_push_of_some _ e
  have old : ∀ b o, s.heap.get? b = some o → b ≠ S := fun b o e => by rw [← hSS]; exact Nat.ne_of_lt (Heap.lt_size e)
  generalize s.heap.push { cls := .type "list", data := .seq #[] } = h1 at *
  show wpAny _ A.in1.in1 (do let old ← Builtin.List.listItems (.ref S); Builtin.List.listUpdate (.ref S) (fun _ => #[]); letGo old.toList.reverse; Builtin.List.listExtendWith (.ref S) (.ref R) .none) _ _ _
  refine wpAny_bind ?_
  unfold Builtin.List.listItems
  refine wpAny_bind (wpAny_seqItems (s := { s with heap := h1 }) hS rfl (wpAny_pure ?_))
  show wpAny _ A.in1.in1 (updateSeq S (fun _ => #[]) >>= fun _ => letGo (#[] : Array Value).toList.reverse >>= fun _ => Builtin.List.listExtendWith (.ref S) (.ref R) .none) _ _ _
  refine wpAny_bind (wpAny_updateSeq (s := { s with heap := h1 }) hS rfl ?_)
  have hS2 := Heap.get?_update_self (Obj.mapSeq (fun _ => (#[] : Array Value))) hS rfl
  have up2 : ∀ b o, b ≠ S → h1.get? b = some o → (h1.update S (Obj.mapSeq (fun _ => (#[] : Array Value)))).get? b = some o := fun b o hb e => (Heap.get?_update_other _ _ (Ne.symm hb)).trans e
  refine wpAny_bind (wpAny_letGo ?_)
  have up3 : ∀ b o, s.heap.get? b = some o → (h1.update S (Obj.mapSeq (fun _ => (#[] : Array Value)))).get? b = some o := fun b o e => up2 b o (old b o e) (up0 b o e)
  generalize hh2 : h1.update S (Obj.mapSeq (fun _ => (#[] : Array Value))) = h2 at *
  have it2 : h2.IsRevIter R l ((items.size : Int) - 1) := hit.at fun o e => up3 _ _ e
  have hl2 : h2.IsList l items := hl.at fun o e => up3 _ _ e
  have hT : Shared.TypeIs { s with heap := h2 } (.ref R) "list_reverseiterator" := by
    obtain ⟨o, e, c, _⟩ := it2
    exact ⟨o, e, c⟩
  have hSR : S ≠ R := Nat.ne_of_gt lR
  unfold Builtin.List.listExtendWith
  refine wpAny_bind (wpAny_typeOf hT ?_)
  have b1 : Builtin.List.listSameRef (.ref S) (.ref R) = false := by simp [Builtin.List.listSameRef, hSR]
  have b2 : (Value.type "list_reverseiterator" == Value.type "list") = false := by decide
  have b3 : (Value.type "list_reverseiterator" == Value.type "tuple") = false := by decide
  simp only [b1, b2, b3, Bool.or_false, Bool.false_eq_true, if_false]
  refine wpAny_bind (wpAny_pyIter_revIter (s := { s with heap := h2 }) it2 ?_)
  refine wpAny_bind (wpAny_holding ?_)
  unfold Builtin.List.listLengthHint
  refine wpAny_bind (wpAny_specialOf hT lri_no_len ?_)
  show wpAny _ A.in1.in1 (specialOf (Value.ref R) (Str.ofString "__length_hint__") >>= _) _ _ _
  refine wpAny_bind (wpAny_specialOf hT lri_hint ?_)
  show wpAny _ A.in1.in1 (isInstance (Value.ref R) (.type "list_reverseiterator") >>= _) _ _ _
  refine wpAny_bind (wpAny_isInstance hT lri_sub ?_)
  rw [if_neg (by decide)]
  show wpAny _ A.in1.in1 (pure false) _ _ _
  refine wpAny_pure ?_
  rw [if_neg (by decide)]
  have hlS : l ≠ S := Nat.ne_of_lt ll
  refine wpAny_pure ⟨plainId_quiet F.plain_extend_loop _, extend_rev (A := A.in1) (items := items) hh hSR hlS hlR items.size _ [] _ (Nat.le_refl _) it2 hl2 hS2 (by simp; omega) fun h' c hk' eS' => ⟨rfl, hQ h' c (fun b o hb e => hk' b o hb (old b o e) (up3 b o e)) ?_⟩⟩
  rw [List.nil_append, List.take_of_length_le (by simp)] at eS'
  exact eS'
end
def tListRev (K : PySem.W.Frag) (ta : TA) : TE := fun σ H Q => ta σ H fun vs H1 => ∃ (a : Addr) (xs : List V), vs = [.ref a] ∧ SqL K H1 a xs ∧ xs.length ≤ 100000 ∧ ∀ l, H1 l = none → Q (.ref l) (upd H1 l (.lst xs.reverse))
theorem pe_listRev (K : PySem.W.Frag) {X : Cx} {e : Expr} {ta : TA} {p p2 pos pos2 : Pos} (hc : X.calm = true) (hgl : Gl X "list") (hml : X.mg "list" = none) (hgz : Gl X "reversed") (hmz : X.mg "reversed" = none) (ha : PA X [e] ta)
    (hs : starEach [e] X.env = [(false, eval e X.env)] := by rfl)
    (na : starEach [.Call (.Name "reversed" p2) [e] [] pos2] X.env = (false, eval (.Call (.Name "reversed" p2) [e] [] pos2) X.env) :: starEach [] X.env := by rfl) (hK : X.K = K := by rfl) :
    PE X (.Call (.Name "list" p) [.Call (.Name "reversed" p2) [e] [] pos2] [] pos) (tListRev K ta) := by
  subst hK
  refine ⟨fun pins s σ H Q I h => ?_⟩
  refine Call_ (ld_blt I hgl hml PyProof.Rows.boot_list (PyProof.Rows.callWith_type1 (args_cons (Call_ (ld_blt I hgz hmz PyProof.Rows.boot_reversed (PyProof.Rows.callWith_type1 (thn (ha.run pos2 pins s σ H _ I h) fun us s1 ⟨vs, H1, I1, r1, a, xs, ev, qx, lx, q⟩ => ?_) hs))) na) na))
  subst ev
  obtain ⟨u, rfl, ru⟩ := vals1 r1
  obtain rfl : u = Value.ref a := ru
  obtain ⟨js, rv, pl, hz⟩ := I1.list qx
  refine call_reversed_list pl.isList (args_nil ?_)
  have lj := rv.length
  have la : a < s1.heap.objs.size := by obtain ⟨_, o, _⟩ := pl.isList; exact Heap.lt_size o
  have up : ∀ b o, s1.heap.get? b = some o → (s1.heap.push (revObj a ((js.toArray.size : Int) - 1))).get? b = some o := fun b o e => Heap.get?_push_of_some _ e
  have hR : (s1.heap.push (revObj a ((js.toArray.size : Int) - 1))).get? s1.heap.objs.size = some (revObj a ((js.toArray.size : Int) - 1)) := Heap.get?_push_size _ rfl
  refine call_list_rev (s := { s1 with heap := s1.heap.push (revObj a ((js.toArray.size : Int) - 1)) }) (R := s1.heap.objs.size) (l := a) (items := js.toArray) (I1.ok.hd hc) ⟨_, hR, rfl, rfl⟩ (pl.isList.at fun o e => up _ _ e) (Nat.ne_of_lt la) (by simp; omega) fun h' c hk eS => ?_
  have hsz : s1.heap.objs.size ≤ (s1.heap.push (revObj a ((js.toArray.size : Int) - 1))).objs.size := Nat.le_of_lt (Heap.lt_size hR)
  refine ⟨.ref _, upd H1 _ (.lst xs.reverse), I1.laid (t' := s1.toks) (fun b o e => hk b o (Nat.ne_of_lt (Heap.lt_size e)) (up b o e)) hsz ⟨?_, js.reverse, c, rv.reverse, ?_⟩, rfl, q _ (I1.hok.fresh hsz)⟩
  · rw [List.length_reverse, sizeLine_eq]
    omega
  · simpa using eS
end Z

set_option Elab.async false
set_option linter.all false
set_option maxRecDepth 100000
set_option maxHeartbeats 4000000
namespace Z
open PySem PySem.Spec PyProof.Rows L2
variable [TabCtx]
/-! ### xs.extend(t), t a tuple -/
theorem list_extend_tupX (l : Addr) (items : Array Value) (n : Nat) (b : Addr) (items2 : Array Value) (n2 : Nat) (dd : Option Addr) (sl : Array (Option Value)) (hs0 : ¬(!items.isEmpty && Builtin.List.listTooLong (items.size + items2.size)) = true) (hs1 : items.size ≤ sizeLine) (hs2 : items.size + items2.size ≤ sizeLine + 1) :
    Meets (Builtin.«list.extend» ⟨[.ref l, .ref b], []⟩) (fun _ R s => s.heap.get? l = some { cls := .type "list", dict := none, data := .seq items n, slots := #[] } ∧ s.heap.get? b = some { cls := .type "tuple", dict := dd, data := .seq items2 n2, slots := sl } ∧ R (.ok (.ret Value.none)) { s with heap := s.heap.update l (Obj.mapSeq fun x => x ++ items2), toks := s.toks }) :=
  .of_wp fun prog w A R s h => by
    obtain ⟨hp, g, d, tk, os⟩ := s; obtain ⟨hl, hb, h⟩ := h; have f1 := AutoSeq1.idx_int; have f2 := AutoSeq1.sub_tuple_tuple; have f3 := AutoSeq1.sub_list_list; have f4 := AutoSeq1.sub_tuple_list; have f5 := AutoSeq1.sub_list_tuple;
    have hz' : (items ++ items2).size ≤ sizeLine + 1 := by rw [Array.size_append]; exact hs2
    wp_walk using (wpAny_updateSeq hl rfl (hz := hs1) (_hz' := hz')), wpAny_loadPart' hl, wpAny_loadPart' hb; exact ⟨_, rfl, h⟩
def rExtendT (K : PySem.W.Frag) : V → List V → Hp → VK → Prop := fun x vs H Q => ∃ l b xs zs, x = .ref l ∧ vs = [.ref b] ∧ H l = some (.lst xs) ∧ SqT K H b zs ∧ xs.length + zs.length ≤ sizeLine ∧ Q .non (upd H l (.lst (xs ++ zs)))
theorem mt_extendT (K : PySem.W.Frag) {X : Cx} (hK : X.K = K := by rfl) : MtR X "list.extend" (rExtendT K) := by
  subst hK
  intro pins s σ H x vs v us Q I rx rv h
  obtain ⟨l, b, xs, zs, rfl, rfl, hH, hB, hz, q⟩ := h
  cases rx
  obtain ⟨u, rfl, ru⟩ := rv.one
  cases ru
  obtain ⟨z, its, n, r, hl, e⟩ := I.lstM hH
  obtain ⟨its2, r2, ⟨⟨cls, dd, data, sl⟩, ho, hc, n2, hd⟩, hs⟩ := I.tuple hB
  simp only at hc hd
  subst hc hd
  have hl2 := r2.length
  have hsz : its.toArray.size + its2.toArray.size ≤ sizeLine := by rw [List.size_toArray, List.size_toArray]; omega
  have hlong : ¬ (!its.toArray.isEmpty && Builtin.List.listTooLong (its.toArray.size + its2.toArray.size)) = true := by
    rw [notLongL hsz, Bool.and_false]
    exact Bool.false_ne_true
  refine call_meets F.slot_list_extend ⟨_, e, rfl⟩ F.entry_list_extend (F.args_list_extend_2 _ _)
    (list_extend_tupX l its.toArray n b its2.toArray n2 dd sl hlong (by rw [List.size_toArray]; omega) (by omega)) ⟨e, ho, ?_⟩
  refine ⟨.non, _, I.lset (its' := its ++ its2) hH e (by simp) (r.append r2) ?_, rfl, q⟩
  rw [List.length_append]
  omega
def fExtT (i : Nat) (fe : DE) : DS := fun E δ n => ∃ xs, δ[i]? = some (.o xs) ∧ fe δ n fun d m => ∃ ys, d = .tuple ys ∧ xs.length + ys.length ≤ 100000 ∧ E.nx (δ.set i (.o (xs ++ ys))) m
theorem ss_extT {K : PySem.W.Frag} {te : TE} {fe : DE} {i : Nat} (h : SE te fe) : SS (tDrop (tBM K "list" (rExtendT K) (tVar i) (tCons te tNil))) (fExtT i fe) := ⟨fun at' ⟨xs, ei, k⟩ e => by
  obtain ⟨a, vs, ea, ha, hs, hA⟩ := at'.rel.oo i xs ei
  refine ⟨_, ea, .inl ⟨rfl, vs, SqL.of hs⟩, h.run at'.rel k fun d m v H' ⟨ys, e1, l1, k2⟩ g l dv => ?_⟩
  subst e1
  have a2 := at'.go g l
  have hs2 := g.k a _ (at'.rel.ob a ha).2 hs
  have hA2 := hA.g (g.w at'.rel.lb)
  have lv := hA.len
  obtain ⟨b, ws, rfl, nb, hb, hB⟩ := dv.tupI
  have lw := hB.len
  exact ⟨a, b, vs, ws, rfl, rfl, hs2, SqT.of hb, Nat.le_of_lt (sz (by omega)), e.nx k2 (a2.mut ei ea ha (hA2.app hB))⟩⟩
end Z

set_option Elab.async false
set_option linter.all false
set_option maxRecDepth 100000
set_option maxHeartbeats 400000
namespace Z
open PySem PySem.Spec PyProof.Rows L2
variable [TabCtx]
/-! ### the greatest, the least of three -/
def mx3 (a b c : Int) : Int := if b > a then (if c > b then c else b) else (if c > a then c else a)
def mn3 (a b c : Int) : Int := if b < a then (if c < b then c else b) else (if c < a then c else a)
def r3I (g : Int → Int → Int → Int) : List V → Hp → VK → Prop := fun xs H Q => ∃ i j l, xs = [.int i, .int j, .int l] ∧ Q (.int (g i j l)) H
theorem call_max3 {X : Cx} (hc : X.calm = true) : CallR X (.builtin "max") (r3I mx3) := by
  intro pins s σ H xs us Q I r h
  obtain ⟨i, j, l, rfl, q⟩ := h
  obtain ⟨u1, u2, u3, rfl, ⟨t1, rfl⟩, ⟨t2, rfl⟩, ⟨t3, rfl⟩⟩ : ∃ u1 u2 u3, us = [u1, u2, u3] ∧ RelV (.int i) u1 ∧ RelV (.int j) u2 ∧ RelV (.int l) u3 := by
    cases r with
    | cons r1 r => cases r with
      | cons r2 r => cases r with
        | cons r3 r => cases r; exact ⟨_, _, _, rfl, r1, r2, r3⟩
  refine max_three_ints (I.ok.hd hc) fun h' tk k => ⟨_, H, I.kept k, ?_, q⟩
  unfold mx3
  split <;> split <;> exact ⟨_, rfl⟩
theorem call_min3 {X : Cx} (hc : X.calm = true) : CallR X (.builtin "min") (r3I mn3) := by
  intro pins s σ H xs us Q I r h
  obtain ⟨i, j, l, rfl, q⟩ := h
  obtain ⟨u1, u2, u3, rfl, ⟨t1, rfl⟩, ⟨t2, rfl⟩, ⟨t3, rfl⟩⟩ : ∃ u1 u2 u3, us = [u1, u2, u3] ∧ RelV (.int i) u1 ∧ RelV (.int j) u2 ∧ RelV (.int l) u3 := by
    cases r with
    | cons r1 r => cases r with
      | cons r2 r => cases r with
        | cons r3 r => cases r; exact ⟨_, _, _, rfl, r1, r2, r3⟩
  refine min_three_ints (I.ok.hd hc) fun h' tk k => ⟨_, H, I.kept k, ?_, q⟩
  unfold mn3
  split <;> split <;> exact ⟨_, rfl⟩
theorem sc_int3 {g : Int → Int → Int → Int} : SC (r3I g) (fun ds K => ∃ i j l, ds = [.int i, .int j, .int l] ∧ K (.int (g i j l))) := ⟨fun hB hA ⟨i, j, l, e, k⟩ q => by
  subst e
  cases hA with
  | cons h1 h2 => cases h2 with
    | cons h2 h3 => cases h3 with
      | cons h3 h4 =>
        cases h4
        cases h1
        cases h2
        cases h3
        exact ⟨i, j, l, rfl, q _ _ _ k (Same.refl _) (.int _)⟩⟩
/-! ### defs that show something: called where nothing is being shown -/
structure FnS (P : Program) (w : World) (K : PySem.W.Frag) (mg : Str → Option Value) (base : Heap) (k : Nat) (f : Addr) (fd : FuncData) (ps : List Str) (sp : Sp) : Prop where
  len : ∀ vs H Q E, sp vs H Q E → vs.length = ps.length
  g : FnG P w K mg base k f fd ps sp
section
variable {X : Cx} {k : Nat} {f : Addr} {fd : FuncData} {ps : List Str} {sp : Sp} {dvs : List V} {ds : List Value} {x : Str} {p pos : Pos} {e : Expr} {es : List Expr} {t : TA}
theorem run_fnS {pins : List (Addr × Obj)} {σ : L2.St} {H : Hp} {s : Shared} {Q : VK} {us : List Value} {vs : List V} (F : FnS X.prog X.w X.K X.mg X.base k f fd ps sp) (hA : X.A.guards = some []) (hr : Room k X.A) (hb : Binds X.K fd ps ds) (hd : Vals dvs ds)
    (I : Inv X pins σ H s) (r : Vals vs us) (h : sp (vs ++ dvs) H Q E0) : wpAny (model X.prog X.w) X.A (call (.ref f) us) (EP X pins σ Q) X.xe s := by
  have r2 : Vals (vs ++ dvs) (us ++ ds) := r.append hd
  have hl : (us ++ ds).length = ps.length := by rw [← r2.length]; exact F.len _ _ _ _ h
  refine wpAny_call (codeAny_mono (F.g.run X.A X.stack s H ⟨us, []⟩ (us ++ ds) (vs ++ dvs) Q E0 hA hr I.env0 (hb s us I.kIn hl) r2 h) fun r s' hq => ?_)
  cases r with
  | error e => exact hq.elim
  | ok fl =>
    cases fl with
    | ret u => exact I.after hq
    | next => exact False.elim hq
    | brk => exact False.elim hq
    | cont => exact False.elim hq
theorem pe_callS (F : FnS X.prog X.w X.K X.mg X.base k f fd ps sp) (hA : X.A.guards = some []) (hr : Room k X.A) (hg : Gl X x) (hm : X.mg x = some (.ref f)) (hk : PySem.W.keepIn X.K (.ref f) = true) (hb : Binds X.K fd ps ds) (hd : Vals dvs ds)
    (ha : PA X (e :: es) t) (hdb : (x == ("__debug__" : Str)) = false := by decide) (he : starEach (e :: es) X.env = (false, eval e X.env) :: starEach es X.env := by rfl) (hpl : (backTo pos (starEach es X.env)).any (·.1) = false := by rfl) :
    PE X (.Call (.Name x p) (e :: es) [] pos) (tCall sp dvs E0 t) := by
  refine ⟨fun pins s σ H Q I h => ?_⟩
  refine wpAny_Call_Name_kw (ld_glob I hg hm ?_ hdb)
  refine PySem.W.callWith_K (h₀ := X.base) I.ok.mod.kin hk (thn (ha.run pos pins s σ H _ I h) fun us s1 ⟨vs, H1, I1, r, q⟩ => ⟨I1.kIn, ?_⟩) he hpl
  exact run_fnS F hA hr hb hd I1 r q
end
section
variable {P : Program} {w : World} {K : PySem.W.Frag} {mg : Str → Option Value} {base : Heap} {x qual : Str} {st : Stmt} {f : Addr} {fd : FuncData} {N ps : List Str} {k : Nat}
theorem okDS {R : List Sl → Nat → DQ → Prop} (F : Fun K x qual st f fd) (S : FnScope N ps (defScope st)) (fs : DS)
    (hbody : ∀ (cdv : Value) (A : Around) (outer : List Env) (s : Shared) (H : Hp) (E : XK), A.guards = some [] → Room k (A.deeper (envOfC qual (defScope st) s.heap.objs.size f cdv)) → ∃ t, PSs (cxOf CX0 P w K mg base N qual (defScope st) f cdv A outer s H E).nox (defBody st) t ∧ SS t fs)
    (len : ∀ ds n Q, R ds n Q → ds.length = ps.length) (hd : ∀ ds n Q, R ds n Q → fs { nx := fun _ m => Q .none m, rt := Q, rn := fun xs m => Q (.list xs) m } (startD N ds) n) : FnS P w K mg base (k + 1) f fd ps (spD R) := by
  have hl : ∀ (vs : List V) (H : Hp) (Q : VK) (E : XK), spD R vs H Q E → vs.length = ps.length := fun vs H Q E h => by
    obtain ⟨L, B, ds, n, K', hv, _, _, _, hR, _⟩ := h
    rw [hv.len]
    exact len ds n K' hR
  refine ⟨hl, fn_g F S hl (fun cdv A outer s H vs Q E hA hr h => ?_)⟩
  obtain ⟨L, B, ds, n, K', hv, hB, lb, lf, hR, q⟩ := h
  obtain ⟨t, ht, hs⟩ := hbody cdv A outer s H E hA hr
  refine ⟨t, ht, hs.run (L := L) (B0 := B) (B := B) (O := []) (Fr := fun B O H' => Go L H H' ∧ ∀ a ∈ O, H a = none) ⟨frDef, fun a ha => ⟨ha, (fun h => nomatch h)⟩, ⟨Go.refl, (fun _ h => nomatch h)⟩, start_rel N hv hB lb lf⟩ (hd ds n K' hR) ⟨fun k a => ?_, fun k f l d => ?_, fun k f l e hA => ?_, fun h _ => h.elim, fun h _ => h.elim⟩⟩
  · exact q _ _ _ _ k a.fr.1 a.rel.lf .non
  · exact q _ _ _ _ k f.1 l d
  · exact q _ _ _ _ k f.1 l (.lst (hB.ne (f.2 _ (List.mem_singleton.mpr rfl))) e hA.un)
end
def rdStr : List PyData → (PyData → Prop) → Prop := fun ds K => ∃ d : PyData, ds = [d] ∧ (∃ xs, d = .list xs ∨ d = .tuple xs) ∧ d.showable = true ∧ d.hasDict = false ∧ d.depth ≤ 40 ∧ d.shown.length ≤ sizeLine ∧ K (.str d.shown)
theorem sc_str {K : PySem.W.Frag} : SC (rStrD K) rdStr := ⟨fun hB hA ⟨d, e, ⟨xs, e2⟩, h1, h2, h3, h4, k⟩ q => by
  subst e
  cases hA with
  | cons g1 g2 =>
    cases g2
    have dp := g1.dP (K := K)
    rcases e2 with e2 | e2
    · subst e2
      obtain ⟨a, vs, rfl, _, ha, hC⟩ := g1.lst2
      exact ⟨a, _, rfl, dp, h1, h2, h3, h4, q _ _ _ k (Same.refl _) (.str _)⟩
    · subst e2
      obtain ⟨a, vs, rfl, _, ha, hC⟩ := g1.tupI
      exact ⟨a, _, rfl, dp, h1, h2, h3, h4, q _ _ _ k (Same.refl _) (.str _)⟩⟩
/-! ### a law that goes through its numbers, with a left-over list each -/
/-- the loop's body behind the left-over list L, by its data alone; a: the script -/
theorem Go.seq {K : PySem.W.Frag} {H H' : Hp} {a : Addr} {xs : List V} (e : Go [] H H') (h : SqL K H a xs) : SqL K H' a xs := by
  rcases h with (h | ⟨o, h⟩) | h
  · exact .inl (.inl (e.k _ _ (fun z => nomatch z) h))
  · exact .inl (.inr ⟨o, e.k _ _ (fun z => nomatch z) h⟩)
  · exact .inr h
theorem law_turn {L a : Addr} {H0 H : Hp} {σ : L2.St} {δ : List Sl} {T : TS} {f : DS} {n : Nat} {D : Ends} (hs : SS T f) (hl : Lf L H n) (tb : LamX.Tabs TabCtx.T H) (h0 : H0 L = none) (s0 : Go [] H0 H) (len : σ.length = δ.length) (hn : ∀ (i : Nat) s, δ[i]? = some s → s = .no ∨ (∃ z, s = .d (.int z) ∧ σ[i]? = some (some (.int z))) ∨ (s = .l ∧ σ[i]? = some (some (.ref L))) ∨ (∃ v, s = .v v ∧ σ[i]? = some (some v)))
    (hd : f { nx := fun δ' _ => δ'[0]? = some (.v (.ref a)) ∧ δ'.length = δ.length, rt := fun _ _ => False, rn := fun _ _ => False, ct := fun δ' _ => δ'[0]? = some (.v (.ref a)) ∧ δ'.length = δ.length } δ n) (hx : ∀ σ' H', σ'[0]? = some (some (.ref a)) → σ'.length = σ.length → Go [] H0 H' → D.nx σ' H' ∧ D.ct σ' H') : T D σ H := by
  have s1 : ∀ {B O : List Addr} {H' : Hp}, (Go [L] H H' ∧ ∀ a ∈ O, H a = none) → Go [] H0 H' := fun {B O H'} h => h.1.sm s0 fun a ha => by
    rw [List.mem_singleton.mp ha]
    exact h0
  refine hs.run (L := [L]) (B0 := [L]) (B := [L]) (O := []) (Fr := fun B O H' => Go [L] H H' ∧ ∀ a ∈ O, H a = none) (n := n) (δ := δ) ⟨frDef, fun a ha => ⟨ha, (fun h => nomatch h)⟩, ⟨Go.refl, (fun _ h => nomatch h)⟩, ?_⟩ hd ⟨fun k a => ?_, fun h => h.elim, fun h => h.elim, fun h => h.elim, fun k a => ?_⟩
  · exact {
      len := len
      dd := fun i x e => by
        rcases hn i _ e with h | ⟨z, h, g⟩ | ⟨h, g⟩ | ⟨z, h, g⟩ <;> cases h
        exact ⟨_, g, .int _⟩
      oo := fun i x e => by
        rcases hn i _ e with h | ⟨z, h, g⟩ | ⟨h, g⟩ | ⟨z, h, g⟩ <;> cases h
      uq := fun i j xs ys a e => by
        rcases hn i _ e with h | ⟨z, h, g⟩ | ⟨h, g⟩ | ⟨z, h, g⟩ <;> cases h
      uk := fun i j t t' xs ys a e => by
        rcases hn i _ e with h | ⟨z, h, g⟩ | ⟨h, g⟩ | ⟨z, h, g⟩ <;> cases h
      kk := fun i tp xs e => by
        rcases hn i _ e with h | ⟨z, h, g⟩ | ⟨h, g⟩ | ⟨z, h, g⟩ <;> cases h
      ll := fun i e => by
        rcases hn i _ e with h | ⟨z, h, g⟩ | ⟨h, g⟩ | ⟨z, h, g⟩ <;> cases h
        exact ⟨L, List.mem_singleton.mpr rfl, g⟩
      vv := fun i u e => by
        rcases hn i _ e with h | ⟨z, h, g⟩ | ⟨h, g⟩ | ⟨z, h, g⟩ <;> cases h
        exact g
      bk := hl.bk
      ob := fun _ h => nomatch h
      lb := fun _ h => h
      lf := ⟨fun a ha => by rw [List.mem_singleton.mp ha]; exact hl, tb⟩ }
  · exact (hx _ _ (a.rel.vv 0 _ k.1) (by rw [a.rel.len, k.2, len]) (s1 (B := []) a.fr)).1
  · exact (hx _ _ (a.rel.vv 0 _ k.1) (by rw [a.rel.len, k.2, len]) (s1 (B := []) a.fr)).2
end Z

set_option Elab.async false
set_option linter.all false
set_option maxRecDepth 100000
set_option maxHeartbeats 400000
namespace Z
open PySem PySem.Spec PyProof.Rows L2
variable [TabCtx]
section
variable {K : PySem.W.Frag} {te : TE} {fe : DE} {i j : Nat}
/-! ### pop, continue, sorted of one's own, index -/
def fPopO (i j : Nat) : DS := fun E δ n => ∃ xs d, δ[i]? = some (.o (xs ++ [d])) ∧ E.nx ((δ.set i (.o xs)).set j (.d d)) n
theorem ss_popO : SS (tAsg (tBM0 K "list" rPop (tVar i)) (gName j)) (fPopO i j) := ⟨fun {L B0 Fr B O σ H δ n D E} at' ⟨xs, d, ei, k⟩ e => by
  obtain ⟨a, vs, ea, ha, hs, hA⟩ := at'.rel.oo i _ ei
  have lv := hA.len
  obtain ⟨v, ev, dv⟩ := hA.get (i := xs.length) (d := d) (by rw [List.getElem?_append_right (Nat.le_refl _), Nat.sub_self]; rfl)
  rw [List.length_append, List.length_singleton] at lv
  have hA2 : DtA B H vs.dropLast xs := by
    have := DtA.take xs.length hA
    rw [List.take_left'] at this
    · rw [List.dropLast_eq_take, lv, Nat.add_sub_cancel]
      exact this
    · rfl
  refine ⟨_, ea, .inl ⟨rfl, vs, SqL.of hs⟩, a, vs, v, rfl, rfl, hs, by rw [lv, Nat.add_sub_cancel]; exact ev, ?_⟩
  have am := at'.mut ei ea ha hA2
  have dv2 : Dt B (upd H a (.lst vs.dropLast)) v d := dv.g (Go.refl.at (at'.rel.ob a ha).1)
  exact e.nx k (am.re (am.rel.set_d j dv2))⟩
def fCont : DS := fun E δ n => E.ct δ n
theorem ss_cont : SS tCont fCont := ⟨fun at' k e => e.ct k at'⟩
def fSortO (i : Nat) : DI := fun δ n K => ∃ ns : List Int, δ[i]? = some (.o (ns.map .int)) ∧ ∀ ks : List Int, ks.Perm ns → ks.Pairwise (· ≤ ·) → K (ks.map .int) n
theorem sn_sortO : SN (tCB (rSortedI K) (tCons (tVar i) tNil)) (fSortO i) := ⟨fun h ⟨ns, e, k⟩ q => by
  obtain ⟨a, vs, ea, ha, hs, hA⟩ := h.oo i _ e
  have ev := hA.intsV
  subst ev
  exact ⟨_, ea, a, ns, rfl, SqL.of hs, fun ks p h1 h2 hp => q _ _ _ _ _ (k ks h1 h2) (Go.of (sm_new hp)) (h.lf.same (sm_new hp)) hp upd_same (DtA.ints ks)⟩⟩
theorem first_at : ∀ {ms : List Int} {y : Int}, y ∈ ms → ∃ p : Nat, p < ms.length ∧ ms[p]? = some y ∧ ∀ q, q < p → ms[q]? ≠ some y
  | x :: ms, y, h => by
    by_cases e : x = y
    · exact ⟨0, by simp, by rw [e]; rfl, fun q hq => absurd hq (Nat.not_lt_zero _)⟩
    · rcases List.mem_cons.mp h with z | z
      · exact absurd z.symm e
      · obtain ⟨p, h1, h2, h3⟩ := first_at z
        refine ⟨p + 1, by simpa using h1, by simpa using h2, fun q hq => ?_⟩
        cases q with
        | zero => simpa using e
        | succ q => simpa using h3 q (by omega)
def fIdxI (fe fz : DE) : DE := fun δ n K => fe δ n fun d m => ∃ ns : List Int, d = eI ns ∧ fz δ m fun z k => ∃ y : Int, z = .int y ∧ y ∈ ns ∧ ∀ j : Nat, j < ns.length → ns[j]? = some y → (∀ p, p < j → ns[p]? ≠ some y) → K (.int j) k
theorem se_idxI {tz : TE} {fz : DE} (he : SE te fe) (hz : SE tz fz) : SE (tBM K "list" (rIndex K) te (tCons tz tNil)) (fIdxI fe fz) := ⟨fun {L B O H σ δ n Q Kk} h k q => he.run h k fun d m v H1 ⟨ms, e1, k1⟩ g1 l1 d1 => by
  have h1 := h.go g1 l1
  subst e1
  obtain ⟨a, rfl, na, ha⟩ := d1.ints
  refine ⟨.inl ⟨rfl, _, SqL.of ha⟩, hz.run h1 k1 fun z j u H2 ⟨y, e3, hy, k2⟩ g2 l2 d2 => ?_⟩
  subst e3
  cases d2
  obtain ⟨p, hp, ep, fp⟩ := first_at hy
  refine ⟨a, _, .int y, p, .int y, rfl, rfl, SqL.of ((g2.w h.lb).k a _ na ha), rfl, ?_, by rw [List.getElem?_map, ep]; rfl, by simp [eqV], fun m z' hm hz' => ?_, q _ _ _ _ (k2 p hp ep fp) (g1.trans g2) l2 (.int _)⟩
  · exact List.all_eq_true.mpr fun v hv => by
      obtain ⟨x, _, rfl⟩ := List.mem_map.mp hv
      rfl
  · rw [List.getElem?_map] at hz'
    cases em : ms[m]? with
    | none => rw [em] at hz'; cases hz'
    | some x =>
      rw [em] at hz'
      cases hz'
      have : x ≠ y := fun q => fp m hm (by rw [em, q])
      simp [eqV, this]⟩
end
/-! ### str, somewhat deeper -/
def rStrD2 (K : PySem.W.Frag) : List V → Hp → VK → Prop := fun xs H Q => ∃ (a : Addr) (d : PyData), xs = [.ref a] ∧ Dp K H (.ref a) d ∧ d.showable = true ∧ d.hasDict = false ∧ d.depth ≤ 56 ∧ d.shown.length ≤ sizeLine ∧ Q (.str d.shown) H
theorem cr_strD2 (K : PySem.W.Frag) {X : Cx} (hg : X.A.guards = some []) (hu : X.A.units + 64 < cLine) (hK : X.K = K := by rfl) : CallR X (.type "str") (rStrD2 K) := by
  subst hK
  intro pins s σ H xs us Q I r h
  obtain ⟨a, d, rfl, hd, h1, h2, h3, h4, q⟩ := h
  obtain ⟨u, rfl, ru⟩ := vals1 r
  have ru2 := ru
  obtain rfl : u = Value.ref a := ru
  obtain ⟨as, hr⟩ := Dp.reads I d _ _ hd ru2
  exact str_of_reads hr h1 (fun z => by rw [h2] at z; cases z) hg (by omega) (fun _ _ e => e) (fun h' u tk hk => ⟨.str d.shown, H, I.kept hk, ⟨u, rfl⟩, q⟩) h4
def rdStr2 : List PyData → (PyData → Prop) → Prop := fun ds K => ∃ d : PyData, ds = [d] ∧ (∃ xs, d = .list xs ∨ d = .tuple xs) ∧ d.showable = true ∧ d.hasDict = false ∧ d.depth ≤ 56 ∧ d.shown.length ≤ sizeLine ∧ K (.str d.shown)
theorem sc_str2 {K : PySem.W.Frag} : SC (rStrD2 K) rdStr2 := ⟨fun hB hA ⟨d, e, ⟨xs, e2⟩, h1, h2, h3, h4, k⟩ q => by
  subst e
  cases hA with
  | cons g1 g2 =>
    cases g2
    have dp := g1.dP (K := K)
    rcases e2 with e2 | e2
    · subst e2
      obtain ⟨a, vs, rfl, _, ha, hC⟩ := g1.lst2
      exact ⟨a, _, rfl, dp, h1, h2, h3, h4, q _ _ _ k (Same.refl _) (.str _)⟩
    · subst e2
      obtain ⟨a, vs, rfl, _, ha, hC⟩ := g1.tupI
      exact ⟨a, _, rfl, dp, h1, h2, h3, h4, q _ _ _ k (Same.refl _) (.str _)⟩⟩
end Z

set_option Elab.async false
set_option linter.all false
set_option maxRecDepth 100000
set_option maxHeartbeats 400000
namespace Z
open PySem PySem.Spec PyProof.Rows L2
variable [TabCtx]
/-! ### one's own list, read as data, where what comes of it is plain -/
def isSc : PyData → Bool
  | .none | .bool _ | .int _ | .str _ => true
  | _ => false
theorem Dt.sc {B C : List Addr} {H : Hp} {v : V} {d : PyData} (h : Dt B H v d) (hs : isSc d = true) : Dt C H v d := by
  cases h with
  | non => exact .non
  | bl b => exact .bl b
  | int i => exact .int i
  | str x => exact .str x
  | lst _ _ _ => cases hs
  | tup _ _ _ => cases hs
def fFrzE (i : Nat) (f : DE) : DE := fun δ n K => ∃ xs, δ[i]? = some (.o xs) ∧ f (δ.set i (.d (.list xs))) n fun d m => isSc d = true ∧ K d m
theorem se_frz {te : TE} {f : DE} (i : Nat) (h : SE te f) : SE te (fFrzE i f) := ⟨fun r ⟨xs, e, k⟩ q => by
  obtain ⟨a, ha, r2⟩ := r.frz e
  exact h.run r2 k fun d m v H' ⟨hs, k2⟩ g l dv => q d m v H' k2 g l (dv.sc hs)⟩
end Z

set_option Elab.async false
set_option linter.all false
set_option maxRecDepth 100000
set_option maxHeartbeats 400000
namespace Z
open PySem PySem.Spec PyProof.Rows L2
variable [TabCtx]
open PySem.W (EachIs SortsAt dataLt alike KatLex)
/-! ### sorted(xs), xs a list of tuples (a pair of numbers, a thing of any kind), no pair twice -/
def enK (p : Int × Int) (t : PyData) : PyData := .tuple [enc p, t]
theorem enK_inj {p q : Int × Int} {t u : PyData} (h : enK p t = enK q u) : p = q ∧ t = u := by
  have h1 := PyData.tuple.inj h
  have h2 := List.cons.inj h1
  exact ⟨enc_inj h2.1, (List.cons.inj h2.2).1⟩
section
variable {β : Type} (k : β → Int × Int) (t : β → PyData)
noncomputable def rankKind (h : Heap) (bs : List β) : PyProof.Rows.KeyKind where
  toKeyOrd := PyProof.Rows.listOrd PyProof.Rows.itemOrd
  keyOf v := open Classical in if q : ∃ b, b ∈ bs ∧ ∃ as, Reads h v (enK (k b) (t b)) as then some (PySem.W.keyToks (enc (k q.choose))) else none
  dflt := ([] : List (Int ⊕ List Nat))
variable {k t}
theorem rank_some {h : Heap} {bs : List β} (hc : ∀ b ∈ bs, (enK (k b) (t b)).canLay0 = true) {v : Value} {b : β} {as : List Addr} (hb : b ∈ bs) (r : Reads h v (enK (k b) (t b)) as) : (rankKind k t h bs).keyOf v = some (PySem.W.keyToks (enc (k b))) := by
  have q : ∃ b, b ∈ bs ∧ ∃ as, Reads h v (enK (k b) (t b)) as := ⟨b, hb, as, r⟩
  have e : (rankKind k t h bs).keyOf v = some (PySem.W.keyToks (enc (k q.choose))) := by
    show (open Classical in if q : ∃ b, b ∈ bs ∧ ∃ as, Reads h v (enK (k b) (t b)) as then some (PySem.W.keyToks (enc (k q.choose))) else none) = _
    rw [dif_pos q]
  obtain ⟨h1, as', h2⟩ := q.choose_spec
  rw [e, (enK_inj (SeqAt.Reads.unique _ _ _ _ _ (hc _ h1) h2 r)).1]
theorem rank_inv {h : Heap} {bs : List β} {v : Value} {x : List (Int ⊕ List Nat)} (e : (rankKind k t h bs).keyOf v = some x) : ∃ b as, b ∈ bs ∧ Reads h v (enK (k b) (t b)) as ∧ x = PySem.W.keyToks (enc (k b)) := by
  by_cases q : ∃ b, b ∈ bs ∧ ∃ as, Reads h v (enK (k b) (t b)) as
  · have e' : (rankKind k t h bs).keyOf v = some (PySem.W.keyToks (enc (k q.choose))) := by
      show (open Classical in if q : ∃ b, b ∈ bs ∧ ∃ as, Reads h v (enK (k b) (t b)) as then some (PySem.W.keyToks (enc (k q.choose))) else none) = _
      rw [dif_pos q]
    obtain ⟨h1, as', h2⟩ := q.choose_spec
    rw [e'] at e
    exact ⟨_, as', h1, h2, (Option.some.inj e).symm⟩
  · have e' : (rankKind k t h bs).keyOf v = none := by
      show (open Classical in if q : ∃ b, b ∈ bs ∧ ∃ as, Reads h v (enK (k b) (t b)) as then some (PySem.W.keyToks (enc (k q.choose))) else none) = _
      rw [dif_neg q]
      rfl
    rw [e'] at e
    exact absurd e (by simp)
theorem rank_sorts {prog : Program} {w : World} {A : Around} {s : Shared} {vs : List Value} {bs : List β} (e : EachIs (fun v b => ∃ as, Reads s.heap v (enK (k b) (t b)) as) vs bs) (hc : ∀ b ∈ bs, (enK (k b) (t b)).canLay0 = true)
    (hd : ∀ b ∈ bs, ∀ b' ∈ bs, k b = k b' → t b = t b') (hu : ∀ b ∈ bs, A.units + (enK (k b) (t b)).depth < cLine) : SortsAt prog w A s (rankKind k t s.heap bs) vs := by
  refine ⟨fun v hv => ?_, tuples' false, ?_, fun h2 E Q hq => ?_⟩
  · obtain ⟨b, hb, as, r⟩ := e.left v hv
    exact ⟨_, rank_some hc hb r⟩
  · intro E x y a b Q ha hb hq
    obtain ⟨b1, as1, hb1, r1, rfl⟩ := rank_inv ha
    obtain ⟨b2, as2, hb2, r2, rfl⟩ := rank_inv hb
    have hq' : Q (dataLt (enc (k b1)) (enc (k b2))) s := hq
    have d1 := hu b1 hb1
    have c1 := hc b1 hb1
    have c2 := hc b2 hb2
    unfold enK at d1 c1 c2
    rw [PyData.canLay0, PyData.canLayAll0, PyData.canLayAll0] at c1 c2
    rw [PyData.depth, PyData.depthAll, PyData.depthAll] at d1
    have cc1 := Bool.and_eq_true_iff.mp (Bool.and_eq_true_iff.mp c1).2
    have cc2 := Bool.and_eq_true_iff.mp (Bool.and_eq_true_iff.mp c2).2
    cases r1 with
    | @tuple l o xs n _ _ h1 h2 h3 h4 =>
      cases r2 with
      | @tuple l' o' xs' n' _ _ k1 k2 k3 k4 =>
        have n1 : xs.size = 2 := by simpa using SeqAt.ReadsAll.length _ _ _ h4
        have n2 : xs'.size = 2 := by simpa using SeqAt.ReadsAll.length _ _ _ k4
        refine PySem.W.kat_lt h1 h3 k1 k3 ?_
        rw [n1, n2, show decide (2 < 2) = false from rfl]
        generalize xs.toList = vs1 at h4
        generalize xs'.toList = vs2 at k4
        cases h4 with
        | cons p1 p2 => cases p2 with
          | cons p2 p3 =>
            cases p3
            cases k4 with
            | cons q1 q2 => cases q2 with
              | cons q2 q3 =>
                cases q3
                rw [List.zip_cons_cons, List.zip_cons_cons, List.zip_nil_left]
                have al := alike_enc (k b1) (k b2)
                refine PySem.W.kat_cons (PySem.W.eqAt_alike _ _ A s _ _ _ _ p1 q1 al (by have := Nat.min_le_left (enc (k b1)).depth (enc (k b2)).depth; have := Nat.le_max_left (enc (k b1)).depth (max (t b1).depth 0); omega) prog w _ _ ?_)
                cases hx : PyData.eqv (enc (k b1)) (enc (k b2)) with
                | true =>
                  have ek : k b1 = k b2 := by
                    have := hx
                    unfold enc eC at this
                    simp [PyData.eqv, PyData.eqvAll] at this
                    exact Prod.ext this.1 this.2
                  have et := hd b1 hb1 b2 hb2 ek
                  refine PySem.W.kat_yes (PySem.W.kat_cons (SeqAt.eqAt_reads _ _ A s _ _ _ _ p2 q2 cc1.1 cc2.1 (by have := Nat.min_le_left (t b1).depth (t b2).depth; have := Nat.le_max_right (enc (k b1)).depth (max (t b1).depth 0); have := Nat.le_max_left (t b1).depth 0; omega) prog w _ _ ?_))
                  rw [← et, SeqAt.eqv_refl _ cc1.1]
                  refine PySem.W.kat_yes (PySem.W.kat_nil ?_)
                  rw [ek, lt_enc] at hq'
                  rw [show SrtO.lexB (k b2) (k b2) = false from SrtO.lexB_no.mpr (by omega)] at hq'
                  exact hq'
                | false =>
                  refine PySem.W.kat_no (PySem.W.oneLt_alike (fun h => by simp at h) p1 q1 al (enc_ne _) (by have := Nat.min_le_left (enc (k b1)).depth (enc (k b2)).depth; have := Nat.le_max_left (enc (k b1)).depth (max (t b1).depth 0); omega) hq')
  · have em := PySem.W.each_map (R := fun v d => ∃ as, Reads s.heap v d as) (fun b => enK (k b) (t b)) e
    obtain ⟨fs, t1, t2, t3⟩ := PySem.W.each_katTups em (fun d hd => by
      obtain ⟨b, _, rfl⟩ := List.mem_map.mp hd
      exact ⟨_, _, rfl⟩)
    refine PySem.W.kat_kind (T := Value.type "tuple") t1 (by omega) (fun f hf => ?_) (beq_self_eq_true _) (by simpa using hq)
    obtain ⟨x, r, as, m1, m2⟩ := t3 f hf
    obtain ⟨b, _, eb⟩ := List.mem_map.mp m1
    have ex : x = enc (k b) := ((List.cons.inj (PyData.tuple.inj eb)).1).symm
    rw [ex] at m2
    exact PySem.W.looks_reads m2
end
def rSortedR (K : PySem.W.Frag) : List V → Hp → VK → Prop := fun vs H Q => ∃ (a : Addr) (xs : List V) (β : Type) (k : β → Int × Int) (t : β → PyData) (bs : List β), vs = [.ref a] ∧ SqL K H a xs ∧ DpAll K H xs (bs.map fun b => enK (k b) (t b)) ∧ (∀ b ∈ bs, (enK (k b) (t b)).canLay0 = true) ∧ (∀ b ∈ bs, ∀ b' ∈ bs, k b = k b' → t b = t b') ∧ bs.length ≤ 10000 ∧ (∀ b ∈ bs, (enK (k b) (t b)).depth ≤ 60) ∧
  ∀ (ys : List V) (p : Addr), EachIs (fun y b => ∃ j : Nat, xs[j]? = some y ∧ bs[j]? = some b) ys (bs.mergeSort (PySem.W.dataLe false fun b => enc (k b))) → H p = none → Q (.ref p) (upd H p (.lst ys))
theorem cr_sortedR (K : PySem.W.Frag) {X : Cx} (hu : X.A.units + 64 < cLine) (hK : X.K = K := by rfl) : CallR X (.builtin "sorted") (rSortedR K) := by
  subst hK
  intro pins s σ H vs us Q I r h
  obtain ⟨a, xs, β, k, t, bs, rfl, hs, hd, hc, hdi, hl, hdep, q⟩ := h
  obtain ⟨its, rv, hp, hz⟩ := I.list hs
  obtain ⟨u, rfl, ru⟩ := vals1 r
  obtain rfl : u = Value.ref a := ru
  obtain ⟨as, hr⟩ := Dp.readsAll I _ xs its hd rv
  have le1 : its.length = xs.length := rv.length.symm
  have ra := @rdAll _ s.heap
  have le2 : its.length = bs.length := by
    have := (ra hr).1
    rwa [List.length_map] at this
  have zx : ∀ pz ∈ its.zip bs, ∃ j : Nat, its[j]? = some pz.1 ∧ bs[j]? = some pz.2 := by
    intro pz hpz
    obtain ⟨j, hj⟩ := List.mem_iff_getElem?.mp hpz
    obtain ⟨h1, h2⟩ := List.getElem?_zip_eq_some.mp hj
    exact ⟨j, h1, h2⟩
  have e0 : EachIs (fun v b => ∃ j : Nat, its[j]? = some v ∧ bs[j]? = some b) its bs := EachIs.of_zip le2 zx
  have er : EachIs (fun v b => ∃ as, Reads s.heap v (enK (k b) (t b)) as) its bs := EachIs.of_zip le2 fun pz hpz => by
    obtain ⟨j, e1, e2⟩ := zx pz hpz
    exact (ra hr).2 j _ _ e1 (by rw [List.getElem?_map, e2]; rfl)
  let h2 := PySem.W.sortingHeap (PySem.W.copyHeap s.heap its) (s.heap.objs.size + 1) its
  have er' : EachIs (fun v b => ∃ as, Reads h2 v (enK (k b) (t b)) as) its bs := er.mono fun _ _ ⟨as, r⟩ => ⟨as, PyProof.Rows.Reads.keeps (fun _ _ => PySem.W.sorting_copy_old) r⟩
  have hue : X.A.in1.in1.units = X.A.units + 2 := rfl
  refine PySem.W.sorted_vals (κ := rankKind k t h2 bs) hp.isList (rank_sorts (s := { s with heap := h2 }) er' hc hdi fun b hb => by have := hdep b hb; rw [hue]; omega) (by have : sizeLine = 16777216 := rfl; omega) ?_
  have eo := PySem.W.sortVals_each (κ := rankKind k t h2 bs) (rev := false) (fun b => PySem.W.keyToks (enc (k b))) e0 (EachIs.of_zip le2 fun pz hpz => by
    have hb : pz.2 ∈ bs := (List.of_mem_zip hpz).2
    obtain ⟨j, e1, e2⟩ := zx pz hpz
    obtain ⟨as, r⟩ := (ra hr).2 j _ _ e1 (by rw [List.getElem?_map, e2]; rfl)
    exact rank_some hc hb (PyProof.Rows.Reads.keeps (fun _ _ => PySem.W.sorting_copy_old) r))
  have lo : (PySem.W.sortVals (rankKind k t h2 bs) false its its).length = bs.length := by rw [PySem.W.sortVals_length false rfl]; exact e0.length
  generalize PySem.W.sortVals (rankKind k t h2 bs) false its its = out at eo lo
  have eo : EachIs (fun v b => ∃ j : Nat, its[j]? = some v ∧ bs[j]? = some b) out (bs.mergeSort (PySem.W.dataLe false fun b => enc (k b))) := eo
  obtain ⟨ys, v1, v2⟩ := each_lift (S := L2.RelV) (R' := fun y b => ∃ j : Nat, xs[j]? = some y ∧ bs[j]? = some b) (fun v b h => by
    obtain ⟨j, e1, e2⟩ := h
    have hj : j < its.length := (List.getElem?_eq_some_iff.mp e1).1
    obtain ⟨u, hu, ru⟩ := rv.get (List.getElem?_eq_getElem (show j < xs.length by omega))
    rw [e1] at hu
    cases hu
    exact ⟨_, ru, j, List.getElem?_eq_getElem (by omega), e2⟩) eo
  obtain ⟨e, he⟩ := sortedAll_at s.heap its out.toArray
  have ly : ys.length = out.length := Paired.length v1
  exact ⟨.ref (s.heap.objs.size + 1), upd H (s.heap.objs.size + 1) (.lst ys), I.laid (fun b o e => sortedAll_old e) (by omega) ⟨by have : sizeLine = 16777216 := rfl; omega, out, e, v1, he⟩, rfl, q ys _ v2 (I.hok.fresh (by omega))⟩
def rdSortR : List PyData → (List PyData → Prop) → Prop := fun ds K => ∃ (β : Type) (k : β → Int × Int) (t : β → PyData) (bs : List β), ds = [.list (bs.map fun b => enK (k b) (t b))] ∧ (∀ b ∈ bs, (enK (k b) (t b)).canLay0 = true) ∧ (∀ b ∈ bs, ∀ b' ∈ bs, k b = k b' → t b = t b') ∧ bs.length ≤ 10000 ∧ (∀ b ∈ bs, (enK (k b) (t b)).depth ≤ 60) ∧ K ((bs.mergeSort (PySem.W.dataLe false fun b => enc (k b))).map fun b => enK (k b) (t b))
theorem scn_sortR {K : PySem.W.Frag} : SCN (rSortedR K) rdSortR := ⟨fun hB hA ⟨β, k, t, bs, e, h1, h2, h3, h4, kk⟩ q => by
  subst e
  cases hA with
  | cons g1 g2 =>
    cases g2
    obtain ⟨a, vs, rfl, _, ha, hC⟩ := g1.lst2
    exact ⟨a, vs, β, k, t, bs, rfl, SqL.of ha, hC.dP, h1, h2, h3, h4, fun ys p he hp => q _ _ _ _ kk (sm_new hp) hp upd_same (((each_mem (enc := fun b => enK (k b) (t b)) he hC).fr hp).s (sm_new hp))⟩⟩
/-! ### own + list, pop(0)[z] -/
def fCatO (i : Nat) (fb : DE) : DI := fun δ n K => ∃ xs, δ[i]? = some (.o xs) ∧ fb δ n fun y m => ∃ ys, y = .list ys ∧ xs.length + ys.length ≤ 100000 ∧ K (xs ++ ys) m
theorem sn_catO {i : Nat} {tb : TE} {fb : DE} (hb : SE tb fb) : SN (tOp rCat (tVar i) tb) (fCatO i fb) := ⟨fun {L B O H σ δ n Q K} h ⟨xs, e, k⟩ q => by
  obtain ⟨a, vs, ea, ha, hs, hA⟩ := h.oo i xs e
  refine ⟨_, ea, hb.run h k fun y m u H2 ⟨ys, e2, l, k2⟩ g2 l2 d2 => ?_⟩
  subst e2
  obtain ⟨b, ws, rfl, _, hb, hC⟩ := d2.lst2
  have hA2 := hA.g (g2.w h.lb)
  have l1 := hA.len
  have l3 := hC.len
  refine ⟨a, b, vs, ws, rfl, rfl, g2.k a _ (h.ob a ha).2 hs, hb, Nat.le_of_lt (sz (by omega)), fun p hp => ?_⟩
  exact q _ _ p _ _ k2 (g2.trans (Go.of (sm_new hp))) (l2.same (sm_new hp)) (g2.free hp) upd_same (((hA2.app hC).fr hp).s (sm_new hp))⟩
def fPop0 (i j : Nat) (z : Int) : DS := fun E δ n => ∃ xs ys y, δ[i]? = some (.o (.tuple ys :: xs)) ∧ atI ys z = some y ∧ E.nx ((δ.set i (.o xs)).set j (.d y)) n
theorem ss_pop0 {K : PySem.W.Frag} {i j : Nat} {z : Int} : SS (tAsg (tOp (rIxT K) (tBM K "list" rPopAt (tVar i) (tCons (tC (.int 0)) tNil)) (tC (.int z))) (gName j)) (fPop0 i j z) := ⟨fun {L B0 Fr B O σ H δ n D E} at' ⟨xs, ys, y, ei, ey, k⟩ e => by
  obtain ⟨a, vs, ea, ha, hs, hA⟩ := at'.rel.oo i _ ei
  cases hA with
  | @cons v vs' _ _ h1 h2 =>
    have am := at'.mut ei ea ha h2
    obtain ⟨b, us, rfl, nb, hb, hC⟩ := h1.tupI
    obtain ⟨w, fw, gw⟩ := atD hC ey
    have g : Go B H (upd H a (.lst vs')) := Go.refl.at (at'.rel.ob a ha).1
    refine ⟨_, ea, .inl ⟨rfl, _, SqL.of hs⟩, a, _, 0, 0, _, rfl, rfl, hs, by decide, by decide, ?_, rfl, ?_⟩
    · have h0 : 0 < (V.ref b :: vs').length := by simp
      simp [seqIndex?]
    · show ∃ p xs i v, V.ref b = .ref p ∧ V.int z = .int i ∧ SqT K (upd H a (.lst vs')) p xs ∧ atI xs i = some v ∧ _
      refine ⟨b, us, z, w, rfl, rfl, SqT.of (g.k b _ nb hb), fw, ?_⟩
      exact e.nx k (am.re (am.rel.set_d j (gw.g g)))⟩
end Z

set_option Elab.async false
set_option linter.all false
set_option maxRecDepth 100000
set_option maxHeartbeats 400000
namespace Z
open PySem PySem.Spec PyProof.Rows L2 LamX PySem.Calls
variable [TabCtx]
/-! ### sorted(rows, key=lambda row: (row[0][place], row[0])) -/
abbrev kRow (nm pl : Str) (i1 i2 kk : Nat) (p1 p2 p3 p4 p5 p6 p7 p8 p9 : Pos) : Expr :=
  .Tuple [.Subscript (.Subscript (.Name nm p1) (.Constant (.int 0) i1 p2) p3) (.Name pl p4) p5, .Subscript (.Name nm p6) (.Constant (.int 0) i2 p7) p8] kk p9
section
variable {prog : Program} {w : World} {A : Around} {E : Value → Shared → Prop} {s : Shared}
theorem sub_tup {value slice : Expr} {a : Addr} {its : Array Value} {k : Int} {u : Tok} {j : Nat} {x : Value} {Q : Value → Shared → Prop} (hs : PlainIx slice) (ha : IsTup s.heap a its) (hlo : -(2 ^ 63) ≤ k) (hhi : k < 2 ^ 63) (hj : seqIndex? k its.size = some j) (hx : its[j]? = some x) (h : Q x s) :
    wpAny (model prog w) A (subscriptTail value slice (.ref a) (.int k u)) Q E s :=
  subscriptTail_builtinR (x := x) ha.typeIs slot_tuple_getitem.lookup (getItem_tuple (j := j) (Q := fun r s' => r = x ∧ Q r s') ha hlo hhi hj hx ⟨rfl, h⟩) (hs _ _)
theorem keyRow_eval {env : Env} {nm pl : Str} {i1 i2 kk : Nat} {p1 p2 p3 p4 p5 p6 p7 p8 p9 : Pos} {m : Str → Option Value} {a b pc : Addr} {its cs : Array Value} {p : Int} {tp : Tok} {j : Nat} {x : Value} {Q : Value → Shared → Prop}
    (hk : env.scope.kind = .function) (h1 : env.kindOf nm = some .local) (hn : s.heap.Ns env.locals m) (hm : m nm = some (.ref a)) (h2 : env.kindOf pl = some .free) (hc : env.cells.lookup pl = some pc) (hv : s.heap.IsCell pc (some (.int p tp)))
    (ha : IsTup s.heap a its) (l0 : 0 < its.size) (h0 : its[0]? = some (.ref b)) (hb : IsTup s.heap b cs) (hlo : -(2 ^ 63) ≤ p) (hhi : p < 2 ^ 63) (hj : seqIndex? p cs.size = some j) (hx : cs[j]? = some x)
    (d1 : (nm == ("__debug__" : Str)) = false) (d2 : (pl == ("__debug__" : Str)) = false) (d3 : (pl == ("__classdict__" : Str)) = false)
    (h : ∀ tk, Q (.ref s.heap.objs.size) { s with heap := s.heap.push (seqObj "tuple" #[x, .ref b] 0), toks := tk }) :
    wpAny (model prog w) A (eval (kRow nm pl i1 i2 kk p1 p2 p3 p4 p5 p6 p7 p8 p9) env) Q E s := by
  have z0 : seqIndex? 0 its.size = some 0 := by
    unfold seqIndex?
    simp
    intro e
    rw [e] at l0
    exact absurd l0 (by decide)
  have pi : ∀ {i : Nat} {q : Pos}, PlainIx (.Constant (.int 0) i q) := fun _ _ => rfl
  have pn : ∀ {y : Str} {q : Pos}, PlainIx (.Name y q) := fun _ _ => rfl
  refine wpAny_Tuple_spliced (Calls.spliced_cons ?_)
  refine Subscript_ (Subscript_ (wpAny_Name (wpAny_loadName_local hk h1 hn hm ?_) d1))
  refine wpAny_Constant_int (sub_tup pi ha (by decide) (by decide) z0 h0 ?_)
  refine wpAny_Name (wpAny_loadName_free hk h2 hc hv ?_ d3) d2
  refine sub_tup pn hb hlo hhi hj hx ?_
  refine Calls.spliced_cons (Subscript_ (wpAny_Name (wpAny_loadName_local hk h1 hn hm ?_) d1))
  refine wpAny_Constant_int (sub_tup pi ha (by decide) (by decide) z0 h0 ?_)
  refine Calls.spliced_nil ⟨by show 2 ≤ sizeLine; decide, ?_⟩
  exact h _
/-- a call of the lambda: all that was there stays, the key is new -/
theorem keyRow_call {f c' pc a b : Addr} {q nm pl : Str} {params : Arguments} {scope : Scope} {cl : List (Str × Addr)} {pm ctv : Value} {i1 i2 kk : Nat} {p1 p2 p3 p4 p5 p6 p7 p8 p9 : Pos} {its cs : Array Value} {p : Int} {tp : Tok} {j : Nat} {x : Value} {d : PyData} {ns : List PyData}
    (hf : s.heap.get? f = some (PySem.W.kla_obj "<lambda>" q params (kRow nm pl i1 i2 kk p1 p2 p3 p4 p5 p6 p7 p8 p9) scope cl pm c' ctv))
    (hcode : ∃ (oc : Obj) (vs : Array Value) (t : Tok), s.heap.get? c' = some oc ∧ oc.data = .fields vs ∧ vs[1]? = some (.str q t))
    (hb1 : bindArgs (PySem.W.kla_fn "<lambda>" q params (kRow nm pl i1 i2 kk p1 p2 p3 p4 p5 p6 p7 p8 p9) scope cl pm (.ref c') ctv) ⟨[.ref a], []⟩ = pure [(nm, .ref a)])
    (hk : scope.kind = .function) (hco : scope.isCoroutine = false) (hge : scope.isGenerator = false) (nc : ∀ x ∈ scope.names, x.2 ≠ .cell) (h1 : scope.names.lookup nm = some .local) (h2 : scope.names.lookup pl = some .free) (hc : cl.lookup pl = some pc)
    (room : A.depth < recursionLimit) (nl : s.heap.NoLimit) (hv : s.heap.IsCell pc (some (.int p tp)))
    (ha : IsTup s.heap a its) (l0 : 0 < its.size) (h0 : its[0]? = some (.ref b)) (hb : IsTup s.heap b cs) (hlo : -(2 ^ 63) ≤ p) (hhi : p < 2 ^ 63) (hj : seqIndex? p cs.size = some j) (hx : cs[j]? = some x)
    (rx : Reads s.heap x d []) (rb : Reads s.heap (.ref b) (.tuple ns) [])
    (d1 : (nm == ("__debug__" : Str)) = false) (d2 : (pl == ("__debug__" : Str)) = false) (d3 : (pl == ("__classdict__" : Str)) = false) :
    wpAny (model prog w) A (call (.ref f) [.ref a]) (PySem.W.KeyPure (.tuple [d, .tuple ns]) s) E s := by
  obtain ⟨oc, vs, t, hoc, hd, hvq⟩ := hcode
  have grow : ∀ (h₁ : Heap), Heap.SameBut s.heap.objs.size (s.heap.push { cls := .type (if (none : Option Env).isSome then "dict" else "frame"), data := .dict #[] }) h₁ → ∀ b o, s.heap.get? b = some o → h₁.get? b = some o := fun h₁ hsb b o e =>
    hsb.extBut b o (Nat.ne_of_lt (Heap.lt_size e)) (Heap.get?_push_of_some _ e)
  have rc : codeAny (model prog w) A (.call (.ref f) ⟨[.ref a], []⟩) (fun r s' => ∃ v, r = .ok (.ret v) ∧ PySem.W.KeyPure (.tuple [d, .tuple ns]) s v s') s := by
    refine PySem.W.kla_callFunE room hf rfl hco hge rfl ⟨c', oc, vs, t, rfl, hoc, hd, hvq⟩ ?_
    rw [hb1]
    refine wpAny_pure (wpAny_newFunctionEnv nc (fun y hy => ?_) (fun h₁ hns hsb => ?_) hk)
    · rw [List.mem_singleton.mp hy]
      exact h1
    · have kp := grow h₁ hsb
      refine ⟨nl.fresh _ hsb, PySem.W.kla_codeExpr ?_⟩
      have cell : h₁.IsCell pc (some (.int p tp)) := by
        obtain ⟨o, ho, hd⟩ := hv
        exact ⟨o, kp _ _ ho, hd⟩
      refine keyRow_eval (m := fun y => [(nm, Value.ref a)].reverse.lookup y) (j := j) hk h1 hns (by simp) h2 hc cell (ha.keeps kp) l0 h0 (hb.keeps kp) hlo hhi hj hx d1 d2 d3 fun tk => ?_
      have kp2 : ∀ b o, s.heap.get? b = some o → (h₁.push (seqObj "tuple" #[x, .ref b] 0)).get? b = some o := fun b o e => Heap.get?_push_of_some _ (kp b o e)
      have kp3 : ∀ c o, s.heap.get? c = some o → (h₁.push (seqObj "tuple" #[x, .ref b] 0)).get? c = some o := fun c o e => Heap.get?_push_of_some _ (kp c o e)
      refine ⟨_, rfl, _, _, rfl, kp3, ?_⟩
      exact Reads.tuple (as := [] ++ ([] ++ [])) (Heap.get?_push_size _ rfl) rfl rfl (.cons (Reads.keeps kp3 rx) (.cons (Reads.keeps kp3 rb) .nil))
  refine wpAny_call (codeAny_mono rc fun r s' hq => ?_)
  obtain ⟨v, e, k⟩ := hq
  subst e
  exact k
end
/-! ### a lambda is made: what is known behind it -/
theorem tabs_grow {H : Hp} {P c : Addr} {q : Str} {ps : Array Value} (t : Tabs TabCtx.T H) (hP : H P = some (.tbl ps)) (hc : H c = none) (hu : ∀ z ∈ TabCtx.T, z.1 = P → z.2 = q) (tri : TriplesOk ps.toList) (am : ∀ (pos : Pos) (cv : Value), codeAmong pos ps.toList = some cv → ∃ d, cv = .ref d ∧ H d = some (CodeO d q)) (p0 : Pos) :
    Tabs TabCtx.T (upd (upd H P (.tbl (ps ++ #[rawInt p0.line, rawInt p0.col, .ref c]))) c (CodeO c q)) := by
  have pc : P ≠ c := ne_of_none hP hc
  have kept : ∀ d u, H d = some u → d ≠ P → upd (upd H P (.tbl (ps ++ #[rawInt p0.line, rawInt p0.col, .ref c]))) c (CodeO c q) d = some u := fun d u e n => by
    rw [upd_ne (ne_of_none e hc), upd_ne n]
    exact e
  have code : ∀ d r, H d = some (CodeO d r) → d ≠ P := fun d r e z => by
    rw [z, hP] at e
    exact codeO_ne ps (Option.some.inj e).symm
  intro z hz
  obtain ⟨qs, a1, a2, a3⟩ := t z hz
  by_cases e : z.1 = P
  · rw [e, hu z hz e]
    refine ⟨ps ++ #[rawInt p0.line, rawInt p0.col, .ref c], by rw [upd_ne pc, upd_same], ?_, ?_⟩
    · rw [Array.toList_append]
      exact PySem.TriplesOk_snoc _ _ _ _ tri
    · intro po cv hcv
      rw [Array.toList_append] at hcv
      rcases among_app _ tri hcv with y | y
      · obtain ⟨d, d1, d2⟩ := am po cv y
        exact ⟨d, d1, kept d _ d2 (code d q d2)⟩
      · exact ⟨c, y, upd_same⟩
  · refine ⟨qs, kept _ _ a1 e, a2, fun po cv hcv => ?_⟩
    obtain ⟨d, d1, d2⟩ := a3 po cv hcv
    exact ⟨d, d1, kept d _ d2 (code d _ d2)⟩
theorem mkLam {X : Cx} {pins : List (Addr × Obj)} {σ : L2.St} {H : Hp} {s : Shared} {c P : Addr} {params : Arguments} {body : Expr} {scope : Scope} {pos : Pos} {E : Value → Shared → Prop} {Q : Value → Shared → Prop}
    (I : Inv X pins σ H s) (TB : TabB X.base X.mg c P) (hcode : X.env.code = .ref c) (hm : (P, X.env.qual ++ "<lambda>") ∈ TabCtx.T) (hu : ∀ z ∈ TabCtx.T, z.1 = P → z.2 = X.env.qual ++ "<lambda>") (hT : Tabs TabCtx.T H) (hdef : defaultsOf params X.env = ([], []))
    (hfree : ∀ y ∈ scope.names, y.2 = .free → ∃ d, X.env.cells.lookup y.1 = some d)
    (next : ∀ (f c' : Addr) (pm ctv : Value) (H1 : Hp) (s' : Shared), Inv X pins σ H1 s' → Go [] H H1 → s'.heap.get? f = some (PySem.W.kla_obj "<lambda>" (X.env.qual ++ "<lambda>") params body scope (cloFrom X.env.cells scope.names []) pm c' ctv) →
      (∃ (oc : Obj) (vs : Array Value) (t : Tok), s'.heap.get? c' = some oc ∧ oc.data = .fields vs ∧ vs[1]? = some (.str (X.env.qual ++ "<lambda>") t)) → Q (.ref f) s') :
    wpAny (model X.prog X.w) X.A (eval (.Lambda params body scope pos) X.env) Q E s := by
  have tab := hT _ hm
  obtain ⟨ps, hP, tri, am⟩ := tab
  have stP : s.heap.get? P = some { cls := .none, data := .fields ps } := I.hok P _ hP
  have blt : s.heap.BuiltinsAt X.mg P := TB.bm.keeps I.bk
  have glo := I.mod.glob.keeps I.bk
  have hd0 := TB.code.keeps I.bk
  apply PySem.W.kla_eval hdef
  rcases hcase : codeAmong pos ps.toList with _ | cv
  · apply PySem.W.kla_makeFunction (mg := X.mg) (c := c) (P := P) (ps := ps) (closure_ok hfree) I.ok.glob glo hcode hd0 stP tri hcase TB.gP blt
    rintro c' ctv h' tk hx hge hlt ⟨c2, oc, vs, t, e2, hoc, hdat, hv⟩ htb
    injection e2 with e2
    subst e2
    have fresh : H c' = none := I.hok.fresh hge
    have big := Nat.le_trans hge (Nat.le_of_lt hlt)
    have J := inv_table (t' := tk) (more := #[rawInt pos.line, rawInt pos.col, .ref c']) (h' := h'.push (PySem.W.kla_obj "<lambda>" (X.env.qual ++ "<lambda>") params body scope (cloFrom X.env.cells scope.names []) ((X.mg "__name__").getD .none) c' ctv)) I hP
      (fun b o nb e => Heap.get?_push_of_some _ (hx b o nb e)) (Heap.get?_push_of_some _ htb) hge ⟨oc, vs, t, Heap.get?_push_of_some _ hoc, hdat, hv⟩
    refine next h'.objs.size c' _ ctv _ _ J ⟨fun d u _ nt e => ?_, dom_mut dom_new, fun _ => tabs_grow hT hP fresh hu tri am pos, fun d u vs e f => ?_⟩ (Heap.get?_push_size _ rfl) ⟨oc, vs, t, Heap.get?_push_of_some _ hoc, hdat, hv⟩
    · have n1 : d ≠ c' := ne_of_none e fresh
      have n2 : d ≠ P := fun y => nt ps (by rw [y, hP] at e; exact (Option.some.inj e).symm)
      rw [upd_ne n1, upd_ne n2]
      exact e
    · rw [upd_ne (ne_of_none e fresh)] at f
      by_cases y : d = P
      · rw [y, upd_same] at f
        cases f
      · rw [upd_ne y, e] at f
        exact Option.some.inj f
  · obtain ⟨d, e, hd⟩ := am pos cv hcase
    subst e
    apply PySem.W.kla_makeFunctionHit (mg := X.mg) (c := c) (P := P) (ps := ps) (closure_ok hfree) I.ok.glob glo hcode hd0 stP tri hcase blt
    intro ctv h' tk hx _
    have kp : ∀ b o, s.heap.get? b = some o → (h'.push (PySem.W.kla_obj "<lambda>" (X.env.qual ++ "<lambda>") params body scope (cloFrom X.env.cells scope.names []) ((X.mg "__name__").getD .none) d ctv)).get? b = some o := fun b o e => Heap.get?_push_of_some _ (hx b o e)
    have J : Inv X pins σ H { s with heap := h'.push (PySem.W.kla_obj "<lambda>" (X.env.qual ++ "<lambda>") params body scope (cloFrom X.env.cells scope.names []) ((X.mg "__name__").getD .none) d ctv), toks := tk } := I.kept kp
    obtain ⟨⟨oc, vs, t, q1, q2, q3⟩, _⟩ := I.hok d _ hd
    exact next h'.objs.size d _ ctv H _ J Go.refl (Heap.get?_push_size _ rfl) ⟨oc, vs, t, kp _ _ q1, q2, q3⟩
theorem SqT.goN {K : PySem.W.Frag} {H H' : Hp} {a : Addr} {xs : List V} (e : Go [] H H') (h : SqT K H a xs) : SqT K H' a xs := by
  rcases h with (h | ⟨o, h⟩) | h
  · exact .inl (.inl (e.k _ _ (fun z => nomatch z) h))
  · exact .inl (.inr ⟨o, e.k _ _ (fun z => nomatch z) h⟩)
  · exact .inr h
abbrev Rw := List Int × Int
abbrev rowD : Rw → PyData := eRow
def keyD (p : Nat) (r : Rw) : PyData := .tuple [.int (r.1.getD p 0), eC r.1]
def RowsAt (K : PySem.W.Frag) (H : Hp) (xs : List V) (rows : List Rw) : Prop := xs.length = rows.length ∧ ∀ (j : Nat) v r, xs[j]? = some v → rows[j]? = some r → ∃ pa ca, v = .ref pa ∧ SqT K H pa [.ref ca, .int r.2] ∧ SqT K H ca (r.1.map V.int)
def rowsSorted (p : Nat) (rows : List Rw) : List Rw := rows.mergeSort (PySem.W.dataLe false (keyD p))
def tKeyRow (K : PySem.W.Frag) (i : Nat) (tl : TE) : TE := fun σ H Q => tl σ H fun x H1 => ∃ (a : Addr) (xs : List V) (rows : List Rw) (p : Nat), x = .ref a ∧ SqL K H1 a xs ∧ RowsAt K H1 xs rows ∧ σ[i]? = some (some (.int p)) ∧
  (∀ r ∈ rows, p < r.1.length ∧ r.1.length ≤ 1000) ∧ rows.length ≤ 10000 ∧ Tabs TabCtx.T H1 ∧ ∀ H2, Go [] H1 H2 → ∀ (ys : List V) (l : Addr), PySem.W.EachIs (fun y r => ∃ j : Nat, xs[j]? = some y ∧ rows[j]? = some r) ys (rowsSorted p rows) → H2 l = none → Q (.ref l) (upd H2 l (.lst ys))
theorem reads_iV {h : Heap} : ∀ {ns : List Int} {us : List Value}, Vals (ns.map V.int) us → ReadsAll h us (ns.map PyData.int) []
  | [], _, v => by cases v; exact .nil
  | n :: ns, _, v => by
    cases v with
    | cons r t =>
      obtain ⟨t', rfl⟩ := r
      exact ReadsAll.cons (as := []) (bs := []) (.int n t') (reads_iV t)
theorem alike_ints : ∀ xs ys : List Int, PySem.W.alikeAll (xs.map PyData.int) (ys.map PyData.int) = true
  | [], _ => by rw [List.map_nil, PySem.W.alikeAll]
  | x :: xs, [] => by rw [List.map_nil, List.map_cons, PySem.W.alikeAll]
  | x :: xs, y :: ys => by rw [List.map_cons, List.map_cons, PySem.W.alikeAll, alike_ints xs ys, PySem.W.alike]; rfl
theorem keyD_alike (p : Nat) (x y : Rw) : PySem.W.alike (keyD p x) (keyD p y) = true := by
  unfold keyD eC
  simp [PySem.W.alike, PySem.W.alikeAll, alike_ints]
theorem depth_ints : ∀ xs : List Int, PyData.depthAll (xs.map PyData.int) = 0
  | [] => rfl
  | x :: xs => by rw [List.map_cons, PyData.depthAll, depth_ints xs]; rfl
theorem keyD_depth (p : Nat) (x : Rw) : (keyD p x).depth = 2 := by
  unfold keyD eC
  simp [PyData.depth, PyData.depthAll, depth_ints]
section
variable {X : Cx}
theorem pe_keyRow {c P : Addr} {k i : Nat} {nm pl : Str} {params : Arguments} {scope : Scope} {i1 i2 kk : Nat} {p1 p2 p3 p4 p5 p6 p7 p8 p9 lpos kpos pos np : Pos} {e : Expr} {tl : TE}
    (hg : Gl X "sorted") (hm : X.mg "sorted" = none) (hr : Room (k + 3) X.A) (TB : TabB X.base X.mg c P) (hcode : X.env.code = .ref c) (hmT : (P, X.env.qual ++ "<lambda>") ∈ TabCtx.T) (hu : ∀ p ∈ TabCtx.T, p.1 = P → p.2 = X.env.qual ++ "<lambda>")
    (hdef : defaultsOf params X.env = ([], [])) (hfree : ∀ y ∈ scope.names, y.2 = .free → X.env.scope.names.lookup y.1 = some .cell) (hN : X.N[i]? = some pl) (hcl : X.env.scope.names.lookup pl = some .cell)
    (hbind : ∀ (q : Str) (cl : List (Str × Addr)) (pm cv ctv v : Value), bindArgs (PySem.W.kla_fn "<lambda>" q params (kRow nm pl i1 i2 kk p1 p2 p3 p4 p5 p6 p7 p8 p9) scope cl pm cv ctv) ⟨[v], []⟩ = pure [(nm, v)])
    (hk : scope.kind = .function) (hco : scope.isCoroutine = false) (hge : scope.isGenerator = false) (nc : ∀ x ∈ scope.names, x.2 ≠ .cell) (h1 : scope.names.lookup nm = some .local) (h2 : scope.names.lookup pl = some .free)
    (d1 : (nm == ("__debug__" : Str)) = false) (d2 : (pl == ("__debug__" : Str)) = false) (d3 : (pl == ("__classdict__" : Str)) = false)
    (hl : PE X e tl)
    (he : backTo pos (starEach [e] X.env) = (false, eval e X.env) :: backTo pos (starEach [] X.env) := by rfl) :
    PE X (.Call (.Name "sorted" np) [e] [⟨some "key", .Lambda params (kRow nm pl i1 i2 kk p1 p2 p3 p4 p5 p6 p7 p8 p9) scope lpos, kpos⟩] pos) (tKeyRow X.K i tl) := by
  refine ⟨fun pins s σ H Q I h => ?_⟩
  refine wpAny_Call_Name_kw (ld_blt I hg hm (u := .builtin "sorted") (by rfl) ?_)
  refine PyProof.Rows.callWith_kw ?_ he (by rw [he]; rfl) (by rfl) (by rfl)
  rw [he]
  refine Calls.spliced_cons (thn (hl.run pins s σ H _ I h) fun u s1 ⟨x, H1, I1, rx, a, xs, rows, p, ex, hs, hR, hp, hb, hlen, hT, q⟩ => ?_)
  subst ex
  obtain rfl : u = Value.ref a := rx
  refine Calls.spliced_nil ?_
  have hfr : ∀ y ∈ scope.names, y.2 = .free → ∃ c, X.env.cells.lookup y.1 = some c := fun y hy z => I1.ok.has _ (.inl (hfree y hy z))
  show wpAny _ _ (evalAll ((do let v ← eval (.Lambda params (kRow nm pl i1 i2 kk p1 p2 p3 p4 p5 p6 p7 p8 p9) scope lpos) X.env; standAt pos; pure v) :: (backToKw pos (keywordEach [] X.env)).map (·.2))) _ _ s1
  refine wpAny_evalAll_cons (wpAny_bind (mkLam I1 TB hcode hmT hu hT hdef hfr fun f c' pm ctv H2 s2 I2 eN hf hco2 => wpAny_bind (wpAny_standAt (wpAny_pure (wpAny_evalAll_nil ?_)))))
  have hs2 := eN.seq hs
  obtain ⟨its, rv, hpl, hz⟩ := I2.list hs2
  have le1 : its.length = xs.length := rv.length.symm
  have le2 : its.length = rows.length := by rw [le1, hR.1]
  have zx : ∀ pz ∈ its.zip rows, ∃ j : Nat, its[j]? = some pz.1 ∧ rows[j]? = some pz.2 := by
    intro pz hpz
    obtain ⟨j, hj⟩ := List.mem_iff_getElem?.mp hpz
    obtain ⟨h1, h2⟩ := List.getElem?_zip_eq_some.mp hj
    exact ⟨j, h1, h2⟩
  obtain ⟨oc, vsc, tq, hoc, hdc, hvc⟩ : ∃ (oc : Obj) (vs : Array Value) (t : Tok), s2.heap.get? c' = some oc ∧ oc.data = .fields vs ∧ vs[1]? = some (.str (X.env.qual ++ "<lambda>") t) := hco2
  -- the captured name
  obtain ⟨pc, tp, hcl2, hcell⟩ : ∃ pc tp, (cloFrom X.env.cells scope.names []).lookup pl = some pc ∧ s2.heap.IsCell pc (some (.int (p : Nat) tp)) := by
    obtain ⟨m, hn, hl⟩ := I2.loc
    obtain ⟨u, r, q⟩ := hl i pl _ hN hp (.inr (.inl hcl))
    obtain ⟨t, rfl⟩ := r
    obtain ⟨c2, h2'⟩ := mem_lookup (cloFrom_has (cells := X.env.cells) (acc := []) (PySem.mem_of_lookup h2))
    refine ⟨c2, t, h2', ?_⟩
    have cm : X.env.cells.lookup pl = some c2 := by
      rcases cloFrom_mem (PySem.mem_of_lookup h2') with hm | ⟨g1, g2⟩
      · cases hm
      · obtain ⟨c1, hc⟩ := hfr _ g1 rfl
        have hc : X.env.cells.lookup pl = some c1 := hc
        have e2 : c2 = c1 := by
          rw [g2, hc] <;> rfl
        rw [e2]
        exact hc
    rcases q with ⟨k', _⟩ | ⟨_, c3, e', z⟩
    · have k' : X.env.scope.names.lookup pl = some .local := k'
      rw [hcl] at k'
      cases k'
    · rw [cm] at e'
      cases e'
      exact z
  refine PySem.W.sorted_key_data (b := false) (bs := rows) (R := fun v r => ∃ j : Nat, its[j]? = some v ∧ rows[j]? = some r) (keyD p) hpl.isList (PySem.W.EachIs.of_zip le2 zx) (PySem.W.AllAlike.of fun x y => keyD_alike p x y) (PySem.W.Sortable.tuples fun _ => ⟨_, _, rfl⟩) (by have : sizeLine = 16777216 := rfl; omega) (fun r _ => by rw [keyD_depth]; have := hr.units; omega) (ksk_s1 _ _) (fun _ => ksk_l1 _ _) (fun _ => ksk_t1 _ _)
    (fun v r hv hr' h tk kp => ?_) fun out c0 h' tk kp hfresh hD hlo heach => ?_
  · obtain ⟨j, e1, e2⟩ := hv
    have hj : j < its.length := (List.getElem?_eq_some_iff.mp e1).1
    obtain ⟨u, hu', ru⟩ := rv.get (List.getElem?_eq_getElem (show j < xs.length by omega))
    rw [e1] at hu'
    cases hu'
    obtain ⟨pa, ca, ew, t1, t2⟩ := hR.2 j _ r (List.getElem?_eq_getElem (show j < xs.length by omega)) e2
    rw [ew] at ru
    obtain rfl : v = Value.ref pa := ru
    obtain ⟨it1, rv1, is1, _⟩ := I2.tuple (SqT.goN eN t1)
    obtain ⟨it2, rv2, is2, _⟩ := I2.tuple (SqT.goN eN t2)
    have hb2 := hb r hr'
    have l2 := rv2.length
    rw [List.length_map] at l2
    cases rv1 with
    | cons ra rt =>
      obtain rfl := ra
      obtain ⟨x, hx, rx'⟩ := rv2.get (i := p) (by rw [List.getElem?_map, List.getElem?_eq_getElem hb2.1]; rfl)
      obtain ⟨tx, rfl⟩ := rx'
      have eg : r.1.getD p 0 = r.1[p] := by rw [List.getD_eq_getElem?_getD, List.getElem?_eq_getElem hb2.1]; rfl
      show wpAny _ _ _ (PySem.W.KeyPure (.tuple [.int (r.1.getD p 0), .tuple (r.1.map PyData.int)]) _) _ _
      rw [eg]
      refine keyRow_call (tp := tp) (p := ((p : Nat) : Int)) (j := p) (hf := kp _ _ hf) (hcode := ⟨oc, vsc, tq, kp _ _ hoc, hdc, hvc⟩) (hb1 := hbind _ _ _ _ _ _) (hk := hk) (hco := hco) (hge := hge) (nc := nc) (h1 := h1) (h2 := h2) (hc := hcl2) (room := hr.in1.in1.depth) (nl := I2.nolimit.keeps kp) (hv := ?_)
        (ha := is1.keeps kp) (l0 := by simp) (h0 := rfl) (hb := is2.keeps kp) (hlo := by omega) (hhi := by omega) (hj := ?_) (hx := by simpa using hx) (rx := .int _ _) (rb := ?_) (d1 := d1) (d2 := d2) (d3 := d3)
      · obtain ⟨o, ho, hd⟩ := hcell
        exact ⟨o, kp _ _ ho, hd⟩
      · unfold seqIndex?
        have : ¬ ((p : Int) < 0) := by omega
        simp only [this, if_false]
        rw [if_pos]
        · rfl
        · simp
          omega
      · obtain ⟨o, ho, hc, n, hd⟩ := is2.keeps kp
        exact Reads.tuple ho hc hd (reads_iV rv2)
  · have hsz2 : sizeLine = 16777216 := rfl
    obtain ⟨ys, v1, v2⟩ := each_lift (S := L2.RelV) (R' := fun y b => ∃ j : Nat, xs[j]? = some y ∧ rows[j]? = some b) (fun v b h => by
      obtain ⟨j, e1, e2⟩ := h
      have hj : j < its.length := (List.getElem?_eq_some_iff.mp e1).1
      obtain ⟨u, hu, ru⟩ := rv.get (List.getElem?_eq_getElem (show j < xs.length by omega))
      rw [e1] at hu
      cases hu
      exact ⟨_, ru, j, List.getElem?_eq_getElem (by omega), e2⟩) heach
    have ly : ys.length = out.length := Paired.length v1
    refine ⟨.ref (s2.heap.objs.size + 1), upd H2 (s2.heap.objs.size + 1) (.lst ys), I2.laid kp (by omega) ⟨by omega, out, c0, v1, hD⟩, rfl, q H2 eN ys _ v2 (I2.hok.fresh (by omega))⟩
end
theorem freeOf {sc scope : Scope} (h : (scope.names.all fun y => !decide (y.2 = .free) || decide (sc.names.lookup y.1 = some .cell)) = true) : ∀ y ∈ scope.names, y.2 = .free → sc.names.lookup y.1 = some .cell := fun y hy e => by
  have := List.all_eq_true.mp h y hy
  rw [e] at this
  simpa using this
/-! ### the same by data -/
def fKeyRow (i : Nat) (fe : DE) : DI := fun δ n K => fe δ n fun d m => ∃ (rows : List Rw) (p : Nat), d = .list (rows.map rowD) ∧ δ[i]? = some (.d (.int p)) ∧ (∀ r ∈ rows, p < r.1.length ∧ r.1.length ≤ 1000) ∧ rows.length ≤ 10000 ∧ K ((rowsSorted p rows).map rowD) m
theorem rows_at {K : PySem.W.Frag} {B : List Addr} {H : Hp} {vs : List V} {rows : List Rw} (h : DtA B H vs (rows.map rowD)) : RowsAt K H vs rows := by
  refine ⟨by rw [h.len, List.length_map], fun j v r e1 e2 => ?_⟩
  obtain ⟨d, e, dv⟩ := h.getV e1
  rw [List.getElem?_map, e2] at e
  cases e
  obtain ⟨pa, ws, rfl, _, hp, hA⟩ := dv.tupI
  cases hA with
  | cons h1 h2 => cases h2 with
    | cons h2 h3 =>
      cases h3
      cases h2
      obtain ⟨ca, rfl, _, hc⟩ := h1.col
      exact ⟨pa, ca, rfl, SqT.of hp, SqT.of hc⟩
theorem sn_keyRow {K : PySem.W.Frag} {i : Nat} {tl : TE} {fe : DE} (h : SE tl fe) : SN (tKeyRow K i tl) (fKeyRow i fe) := ⟨fun {L B O H σ δ n Q K'} r k q => h.run r k fun d m v H1 ⟨rows, p, e, ep, hp, hl, k1⟩ g l dv => by
  subst e
  obtain ⟨a, vs, rfl, _, ha, hA⟩ := dv.lst2
  obtain ⟨u, eu, du⟩ := r.dd i _ ep
  cases du
  refine ⟨a, vs, rows, p, rfl, SqL.of ha, rows_at hA, eu, hp, hl, l.2, fun H2 g2 ys la he hla => ?_⟩
  have g2' : Go B H1 H2 := g2.w fun _ h => nomatch h
  have gL : Go L H1 H2 := g2.w fun _ h => nomatch h
  have hA2 := hA.g g2'
  have l2 : Lfs L H2 m := ⟨fun c hc => (l.1 c hc).go g2 (fun h => nomatch h), g2.t l.2⟩
  exact q _ m la ys _ k1 ((g.trans gL).trans (Go.new hla)) (l2.new hla) ((g.trans gL).free hla) upd_same (((each_mem he hA2).fr hla).s (sm_new hla))⟩
/-! ### a def that makes a lambda: where its code object and that one's table stand -/
abbrev lamQ : Str := "in_two.<locals>." ++ "<lambda>"
class LamCx (K : PySem.W.Frag) (mg : Str → Option Value) (base : Heap) : Prop where
  ok : ∀ (f : Addr) (oc : Value) (od : Option Addr) (fd : FuncData) (osl : Array (Option Value)), mg "in_two" = some (.ref f) → K.lookup f = some ⟨oc, od, .func fd, osl⟩ → ∃ c P, fd.code = .ref c ∧ TabB base mg c P ∧ (P, lamQ) ∈ TabCtx.T ∧ ∀ z ∈ TabCtx.T, z.1 = P → z.2 = lamQ
section
variable {P : Program} {w : World} {K : PySem.W.Frag} {mg : Str → Option Value} {base : Heap} {x qual : Str} {st : Stmt} {f : Addr} {fd : FuncData} {N ps : List Str} {k : Nat}
theorem okNC [lc : LamCx K mg base] {R : List Sl → Nat → (List PyData → Nat → Prop) → Prop} (F : Fun K x qual st f fd) (g : mg "in_two" = some (.ref f)) (S : FnScope N ps (defScope st)) (fs : DS)
    (hbody : ∀ (c Pt : Addr), TabB base mg c Pt → (Pt, lamQ) ∈ TabCtx.T → (∀ z ∈ TabCtx.T, z.1 = Pt → z.2 = lamQ) → ∀ (A : Around) (outer : List Env) (s : Shared) (H : Hp) (E : XK), Room k (A.deeper (envOfC qual (defScope st) s.heap.objs.size f (.ref c))) → ∃ t, PSs (cxOf CX0 P w K mg base N qual (defScope st) f (.ref c) A outer s H E).nox (defBody st) t ∧ SS t fs)
    (len : ∀ ds n Q, R ds n Q → ds.length = ps.length) (hd : ∀ ds n Q, R ds n Q → fs { nx := fun _ _ => False, rt := fun _ _ => False, rn := Q } (startD N ds) n) : FnOk P w K mg base CX0 (k + 1) f fd ps (spN R) := by
  obtain ⟨oc, od, kV, doc, pm, an, cdv, ct, osl, rfl, lk, hcd⟩ := F.ex
  obtain ⟨c, Pt, hc, tb, hm, hu⟩ := lc.ok _ _ _ _ _ g lk
  obtain rfl : cdv = .ref c := hc
  refine fn_of lk hcd S (fun vs H Q E h => ?_) (fun A outer s H vs Q E hr h => ?_)
  · obtain ⟨L, B, ds, n, K', hv, _, _, _, hR, _⟩ := h
    rw [hv.len]
    exact len ds n K' hR
  · obtain ⟨L, B, ds, n, K', hv, hB, lb, lf, hR, q⟩ := h
    obtain ⟨t, ht, hs⟩ := hbody c Pt tb hm hu A outer s H E hr
    refine ⟨t, ht.nox, hs.run (L := L) (B0 := B) (B := B) (O := []) (Fr := fun B O H' => Go L H H' ∧ ∀ a ∈ O, H a = none) ⟨frDef, fun a ha => ⟨ha, (fun h => nomatch h)⟩, ⟨Go.refl, (fun _ h => nomatch h)⟩, start_rel N hv hB lb lf⟩ (hd ds n K' hR) ⟨fun k a => k.elim, fun k f l d => k.elim, fun k f l e hA => ?_, fun h _ => h.elim, fun h _ => h.elim⟩⟩
    exact q _ _ _ _ _ k f.1 l (f.2 _ (List.mem_singleton.mpr rfl)) e hA
end
end Z

set_option Elab.async false
set_option linter.all false
set_option maxRecDepth 100000
namespace Z
open PySem PySem.Spec PyProof.Rows L2
variable [TabCtx]
/-! ### a range as a value; xs[::s] -/
theorem cr_range1 {X : Cx} : CallR X (.type "range") (fun vs H Q => ∃ j, vs = [V.int j] ∧ ∀ p, H p = none → Q (.ref p) (upd H p (.rng 0 j))) := by
  intro pins s σ H vs us Q I r h
  obtain ⟨j, rfl, q⟩ := h
  obtain ⟨u1, rfl, rj⟩ := vals1 r
  obtain ⟨u, rfl⟩ := rj
  refine call_range_1 ⟨.ref s.heap.objs.size, upd H s.heap.objs.size (.rng 0 j), I.laid (fun b o e => Heap.get?_push_of_some _ e) (Nat.le_refl _) ?_, rfl, q _ (I.hok.fresh (Nat.le_refl _))⟩
  exact ⟨_, _, _, Heap.get?_push_size _ rfl⟩
theorem op_inSK (K : PySem.W.Frag) {X : Cx} (h : X.K = K := by rfl) : OpR X (compareOp .In) (rIn K false) := h ▸ op_in_seq
def stepI (b : Bool) : Int := if b = true then -1 else 1
def tStepL (K : PySem.W.Frag) (te ts : TE) : TE := fun σ H Q => te σ H fun x H1 => tPart ts σ H1 fun o H2 => ∃ a xs b, x = .ref a ∧ o = some (stepI b) ∧ SqL K H2 a xs ∧ ∀ p, H2 p = none → Q (.ref p) (upd H2 p (.lst (if b = true then xs.reverse else xs)))
theorem pe_stepL (K : PySem.W.Frag) {X : Cx} {e st : Expr} {te ts : TE} {p3 pos : Pos} (he : PE X e te) (hs : PE X st ts) (hK : X.K = K := by rfl) : PE X (.Subscript e (.Slice none none (some st) p3) pos) (tStepL K te ts) := by
  subst hK
  refine ⟨fun pins s σ H Q I h => ?_⟩
  refine Subscript_ (thn (he.run pins s σ H _ I h) fun v s1 ⟨x, H1, I1, r1, q1⟩ => ?_)
  have hst : PO X (some st) (tPart ts) := po_some hs
  refine wpAny_Slice (thn (po_none.run pins s1 σ H1 (fun o H2 => o = none ∧ H2 = H1) I1 ⟨rfl, rfl⟩) fun vl s2 ⟨l, H2, I2, pl, el, e2⟩ => ?_)
  subst el e2
  refine thn (po_none.run pins s2 σ H2 (fun o H3 => o = none ∧ H3 = H2) I2 ⟨rfl, rfl⟩) fun vu s3 ⟨u, H3, I3, pu, eu, e3⟩ => ?_
  subst eu e3
  refine thn (hst.run pins s3 σ H3 _ I3 q1) fun vs s4 ⟨o, H4, I4, ps, q4⟩ => ?_
  obtain ⟨a, xs, b, ex, eo, hx, q⟩ := q4
  subst ex eo
  cases r1
  have I5 : Inv X pins σ H4 { s4 with heap := s4.heap.push { cls := .type "slice", data := .fields #[vl, vu, vs] } } := I4.kept (t' := s4.toks) fun b ob q => Heap.get?_push_of_some _ q
  obtain ⟨its, r, ht, hz⟩ := I5.list hx
  have hlen := r.length
  show wpAny (model X.prog X.w) X.A (subscriptTail e (.Slice none none (some st) p3) (.ref a) (.ref s4.heap.objs.size)) (EP X pins σ Q) X.xe { s4 with heap := s4.heap.push { cls := .type "slice", data := .fields #[vl, vu, vs] } }
  refine tail_any (ops := [.ref a, .ref s4.heap.objs.size]) ht.isList.typeIs (PySem.slot_list_getitem.lookup) ?_ (by with_unfolding_all rfl)
  refine wpAny_getItem_list_slice ht.isList (Heap.IsSliceOf.new _ vl vu vs) pl pu ps (by cases b <;> decide) ?_ (by rw [List.size_toArray]; omega)
  cases b with
  | true =>
    show EP X pins σ Q (.ref _) _
    have e1 : slicePick its.toArray none none (some (stepI true)) = its.reverse.toArray := PySem.W.krv_pick _
    rw [e1]
    refine ⟨.ref _, _, I5.laid (t' := s4.toks) (o := .lst xs.reverse) (fun b ob q => Heap.get?_push_of_some _ q) (Nat.le_refl _) ?_, rfl, q _ (I5.hok.fresh (Nat.le_refl _))⟩
    exact ⟨by rw [List.length_reverse]; exact hz, _, 0, r.reverse, Heap.get?_push_size _ rfl⟩
  | false =>
    have e1 : slicePick its.toArray none none (some (stepI false)) = its.toArray := slicePick_all _
    rw [e1]
    refine ⟨.ref _, _, I5.laid (t' := s4.toks) (o := .lst xs) (fun b ob q => Heap.get?_push_of_some _ q) (Nat.le_refl _) ?_, rfl, q _ (I5.hok.fresh (Nat.le_refl _))⟩
    exact ⟨hz, _, 0, r, Heap.get?_push_size _ rfl⟩
end Z

set_option Elab.async false
set_option linter.all false
set_option maxRecDepth 100000
namespace Z
open PySem PySem.Spec PyProof.Rows L2
variable [TabCtx]
/-! ### zip of a tuple and a list -/
def ItTL (K : PySem.W.Frag) (a b : Addr) : It where
  go := fun i H => ∃ (xs ys : List V) (x y : V), (SqT K H a xs ∧ SqL K H b ys) ∧ xs[i]? = some x ∧ ys[i]? = some y
  yld := fun i H v H' => ∃ (T : Addr) (x y : V), v = .ref T ∧ H T = none ∧ H' = upd H T (.tup [x, y]) ∧ (∀ l, SqT K H a l → l[i]? = some x) ∧ (∀ l, SqL K H b l → l[i]? = some y)
  stop := fun i H => ∃ xs ys : List V, (SqT K H a xs ∧ SqL K H b ys) ∧ i ≤ xs.length ∧ i ≤ ys.length ∧ (i = xs.length ∨ i = ys.length)
def own2 (z TI TO i1 i2 : Addr) : List Addr := [z, TI, TO, i1, i2]
def atTL (a b z TI TO i1 i2 : Addr) (i : Nat) (h : Heap) : Prop :=
  IsZip h z TI TO .none ∧ IsTupOf2 h TI (.ref i1) (.ref i2) ∧ (∃ x y, IsTupOf2 h TO x y) ∧ h.IsTupleIter i1 a i ∧ h.IsListIter i2 b i
theorem five {z TI TO i1 i2 q : Addr} (h : q ∈ own2 z TI TO i1 i2) : q = z ∨ q = TI ∨ q = TO ∨ q = i1 ∨ q = i2 := by
  simpa [own2] using h
theorem ne_itT {h : Heap} {t it l : Addr} {items : Array Value} {i : Nat} (p : h.IsTuple t items) (q : h.IsTupleIter it l i) : t ≠ it := fun e => by
  obtain ⟨o, ho, hcl, _⟩ := p
  obtain ⟨o', ho', hcl', _⟩ := q
  rw [e, ho'] at ho
  have eo := Option.some.inj ho
  rw [eo, hcl] at hcl'
  exact absurd (Value.type.inj hcl') (by decide)
theorem ne_itL {h : Heap} {t it l : Addr} {items : Array Value} {i : Nat} (p : h.IsList t items) (q : h.IsListIter it l i) : t ≠ it := fun e => by
  obtain ⟨o, ho, hcl, _⟩ := p
  obtain ⟨o', ho', hcl', _⟩ := q
  rw [e, ho'] at ho
  have eo := Option.some.inj ho
  rw [eo, hcl] at hcl'
  exact absurd (Value.type.inj hcl') (by decide)
set_option maxHeartbeats 1000000 in
theorem turnTL {P : Program} {w : World} {K : PySem.W.Frag} {elts : List Expr} {kk : Nat} {tpos : Pos} {a b z TI TO i1 i2 : Addr} (D : ZipSep2 z TI TO i1 i2 [i1, a] [i2, b]) :
    Turn P w K (.Tuple elts kk tpos) (ItTL K a b) (own2 z TI TO i1 i2) z (atTL a b z TI TO i1 i2) := by
  refine ⟨by simp [own2], fun i h st q hq => ?_, fun i h h' st k => ?_, ?_, ?_, fun A i s Q E st h => wpAny_pyIter_zip st.1 h⟩
  · obtain ⟨hz, hTI, ⟨x, y, hTO⟩, ⟨o1, e1, _, d1⟩, ⟨o2, e2, _, d2⟩⟩ := st
    rcases five hq with rfl | rfl | rfl | rfl | rfl
    · exact ⟨_, hz, fun v q => nomatch q⟩
    · exact ⟨_, hTI, fun v q => nomatch q⟩
    · exact ⟨_, hTO, fun v q => nomatch q⟩
    · exact ⟨o1, e1, fun v q => by rw [d1] at q; cases q⟩
    · exact ⟨o2, e2, fun v q => by rw [d2] at q; cases q⟩
  · obtain ⟨hz, hTI, ⟨x, y, hTO⟩, h1, h2⟩ := st
    exact ⟨k z (by simp [own2]) _ hz, k TI (by simp [own2]) _ hTI, ⟨x, y, k TO (by simp [own2]) _ hTO⟩, h1.at fun o q => k i1 (by simp [own2]) o q, h2.at fun o q => k i2 (by simp [own2]) o q⟩
  · intro X hP hw hK hc i pins s σ H E I hf st hg
    subst hP hw hK
    obtain ⟨hz, hTI, ⟨x0, y0, hTO⟩, h1, h2⟩ := st
    obtain ⟨xs, ys, x, y, ⟨qx, qy⟩, fx, fy⟩ := hg
    obtain ⟨js1, r1, p1, _⟩ := I.tuple qx
    obtain ⟨js2, r2, p2, _⟩ := I.list qy
    obtain ⟨u1, f1, m1⟩ := r1.get fx
    obtain ⟨u2, f2, m2⟩ := r2.get fy
    have lz : z < s.heap.objs.size := Heap.lt_size hz
    have hd := I.ok.hd hc
    have n1 : a ≠ i1 := ne_itT p1 h1
    have n2 : b ≠ i2 := ne_itL p2.isList h2
    have k1 : i < js1.toArray.size := by have := (List.getElem?_eq_some_iff.mp f1).1; simpa using this
    have k2 : i < js2.toArray.size := by have := (List.getElem?_eq_some_iff.mp f2).1; simpa using this
    refine wpAny_pyNext_zipD2_item D (Draws.tuple (A := X.A.in1) hd i1 a n1 js1.toArray) (Draws.list (A := X.A.in1) hd i2 b n2 js2.toArray) hz hTI hTO ⟨h1, p1⟩ ⟨h2, p2.isList⟩ k1 k2 fun x1 x2 h' tk e1 e2 z' TO' st1 st2 hT hsz hk => ?_
    have w1 : x1 = u1 := Option.some.inj (e1.symm.trans (by simpa using f1))
    have w2 : x2 = u2 := Option.some.inj (e2.symm.trans (by simpa using f2))
    subst w1 w2
    refine ⟨_, rfl, wpAny_letOwnedTupleGo_zip (s := { s with heap := h', toks := tk }) z' fun h'' z'' sb => ?_⟩
    have up : ∀ q o, q ≠ z → h'.get? q = some o → h''.get? q = some o := fun q o n e => (sb.2 q n).trans e
    have hT2 := up _ _ (Nat.ne_of_gt lz) hT
    have fresh : H s.heap.objs.size = none := I.hok.fresh (Nat.le_refl _)
    have new : ObjOk X.prog X.w (upd H s.heap.objs.size (.tup [x, y])) h'' s.heap.objs.size (.tup [x, y]) :=
      ⟨by show 2 ≤ sizeLine; decide, [x1, x2], .cons m1 (.cons m2 .nil), ⟨_, hT2, rfl, _, rfl⟩⟩
    have kp : ∀ q o, q ∉ own2 z TI TO i1 i2 → s.heap.get? q = some o → h''.get? q = some o := fun q o nq e => by
      have nz : q ≠ z := fun y => nq (by simp [own2, y])
      refine up q o nz (hk q o nz (fun y => nq (by simp [own2, y])) (fun y => nq (by simp [own2, y])) (fun y => nq (by simp [own2, y])) e)
    have zi : ∀ {j : Addr} {fp : List Addr}, j ∈ fp → z ∉ fp → j ≠ z := fun hj hz e => hz (by rw [← e]; exact hj)
    refine ⟨.ref s.heap.objs.size, _, I.turnedNew (t' := tk) (ch := own2 z TI TO i1 i2) kp hf (Nat.le_refl _) new, rfl, ⟨_, x, y, rfl, fresh, rfl, fun l hl => by rw [I.tuple_inj hl qx]; exact fx, fun l hl => by rw [I.list_inj hl qy]; exact fy⟩, ⟨z'', ?_, ⟨x1, x2, up _ _ D.TOz TO'⟩, ?_, ?_⟩, fun q hq => ?_⟩
    · exact up _ _ D.TIz (hk _ _ D.TIz D.TITO D.TIi1 D.TIi2 hTI)
    · exact st1.1.at fun o e => up _ _ (zi D.mem1 D.zf1) e
    · exact st2.1.at fun o e => up _ _ (zi D.mem2 D.zf2) e
    · have lq : q < s.heap.objs.size := by
        rcases five hq with rfl | rfl | rfl | rfl | rfl
        · exact lz
        · exact Heap.lt_size hTI
        · exact Heap.lt_size hTO
        · obtain ⟨_, e, _⟩ := h1; exact Heap.lt_size e
        · obtain ⟨_, e, _⟩ := h2; exact Heap.lt_size e
      rw [upd_ne (Nat.ne_of_lt lq)]
      exact (hf q hq).1
  · intro X hP hw hK hc i pins s σ H E I hf st hg
    subst hP hw hK
    obtain ⟨hz, hTI, ⟨x0, y0, hTO⟩, h1, h2⟩ := st
    obtain ⟨xs, ys, ⟨qx, qy⟩, b1, b2, hend⟩ := hg
    obtain ⟨js1, r1, p1, _⟩ := I.tuple qx
    obtain ⟨js2, r2, p2, _⟩ := I.list qy
    have hd := I.ok.hd hc
    have l1 := r1.length
    have l2 := r2.length
    have n1 : a ≠ i1 := ne_itT p1 h1
    have n2 : b ≠ i2 := ne_itL p2.isList h2
    refine wpAny_pyNext_zipD2_end D (Draws.tuple (A := X.A.in1) hd i1 a n1 js1.toArray) (Draws.list (A := X.A.in1) hd i2 b n2 js2.toArray) hz hTI hTO ⟨h1, p1⟩ ⟨h2, p2.isList⟩ (by simp; omega) (by simp; omega) (by simp; omega) fun h' tk hk => ?_
    exact ⟨rfl, I.turnedL (t' := tk) (ch := own2 z TI TO i1 i2) (fun q o nq e => hk q o (fun y => nq (by simp [own2, y])) (fun y => nq (by simp [own2, y])) (fun y => nq (by simp [own2, y])) (fun y => nq (by simp [own2, y])) e) hf⟩
set_option maxHeartbeats 400000
def iZipTX (K : PySem.W.Frag) (ta : TA) : TI := fun σ H R => ta σ H fun vs H1 => ∃ a b xs ys, vs = [.ref a, .ref b] ∧ ((SqT K H1 a xs ∧ SqL K H1 b ys ∧ R (ItTL K a b) H1) ∨ (SqT K H1 a xs ∧ SqT K H1 b ys ∧ R (RZ.ItzT K a b) H1))
theorem own2_le {N y : Nat} (hy : y ∈ own2 (N + 4) (N + 2) (N + 3) N (N + 1)) : N ≤ y := by
  rcases five hy with z | z | z | z | z <;> rw [z]
  · exact Nat.le_add_right _ _
  · exact Nat.le_add_right _ _
  · exact Nat.le_add_right _ _
  · exact Nat.le_refl _
  · exact Nat.le_add_right _ _
theorem zipTL_end {X : Cx} {pins : List (Addr × Obj)} {σ : L2.St} {H1 : Hp} {s1 : Shared} {R : It → Hp → Prop} {a b : Addr} {xs ys : List V} {elts : List Expr} {kk : Nat} {tpos : Pos} (I1 : Inv X pins σ H1 s1) (qx : SqT X.K H1 a xs) (qy : SqL X.K H1 b ys) (q : R (ItTL X.K a b) H1) :
    wpAny (model X.prog X.w) X.A (call (.type "zip") [.ref a, .ref b]) (fun v s2 => wpAny (model X.prog X.w) X.A (pyIter v) (PIE X pins σ (.Tuple elts kk tpos) R) X.xe s2) X.xe s1 := by
  obtain ⟨js1, m1, p1, _⟩ := I1.tuple qx
  obtain ⟨js2, m2, p2, _⟩ := I1.list qy
  have la : a < s1.heap.objs.size := by obtain ⟨_, o, _⟩ := p1; exact Heap.lt_size o
  have lb : b < s1.heap.objs.size := by obtain ⟨_, o, _⟩ := p2.isList; exact Heap.lt_size o
  refine zip_begins2 (begins_tuple a js1.toArray) (begins_list b js2.toArray) p1 p2.isList fun h' hz hTI hTO g1 g2 hsz hk => wpAny_pyIter_zip hz ?_
  have one : ∀ {x : Addr}, x < s1.heap.objs.size → ∀ y ∈ [x], y < s1.heap.objs.size := fun hx y hy => by rw [List.mem_singleton.mp hy]; exact hx
  have I2 : Inv X pins σ H1 { s1 with heap := h' } := I1.kept (t' := s1.toks) hk
  have fr : ∀ y, s1.heap.objs.size ≤ y → FpOk X pins H1 y := fun y hle => I1.fpOk hle (I1.hok.fresh hle)
  have sp := zip_sep2 (one la) (one lb)
  generalize s1.heap.objs.size = N at *
  exact ⟨N + 4, own2 (N + 4) (N + 2) (N + 3) N (N + 1), atTL a b (N + 4) (N + 2) (N + 3) N (N + 1), ItTL X.K a b, H1, rfl, I2, turnTL sp, ⟨hz, hTI, ⟨_, _, hTO⟩, ⟨_, g1, rfl, rfl⟩, ⟨_, g2, rfl, rfl⟩⟩, fun y hy => fr y (own2_le hy), q⟩
theorem pi_zipTX (K : PySem.W.Frag) {X : Cx} {e e2 : Expr} {ta : TA} {p pos tpos : Pos} {elts : List Expr} {kk : Nat} (hg : Gl X "zip") (hm : X.mg "zip" = none) (ha : PA X [e, e2] ta)
    (hs : starEach [e, e2] X.env = (false, eval e X.env) :: starEach [e2] X.env := by rfl) (hpl : (backTo pos (starEach [e2] X.env)).any (·.1) = false := by rfl) (hK : X.K = K := by rfl) :
    PI X (.Tuple elts kk tpos) (.Call (.Name "zip" p) [e, e2] [] pos) (iZipTX K ta) := by
  subst hK
  refine ⟨fun pins s σ H R I h => ?_⟩
  refine Call_ (ld_blt I hg hm PyProof.Rows.boot_zip (PyProof.Rows.callWith_type1 (thn (ha.run pos pins s σ H _ I h) fun us s1 ⟨vs, H1, I1, r1, q1⟩ => ?_) hs hpl))
  obtain ⟨a, b, xs, ys, rfl, q1⟩ := q1
  obtain ⟨u1, us, rfl, ra, r1⟩ : ∃ u1 vs', us = u1 :: vs' ∧ RelV (.ref a) u1 ∧ Vals [.ref b] vs' := by
    cases r1 with
    | cons x y => exact ⟨_, _, rfl, x, y⟩
  obtain ⟨u2, rfl, rb⟩ := vals1 r1
  cases (show u1 = Value.ref a from ra)
  cases (show u2 = Value.ref b from rb)
  rcases q1 with ⟨qx, qy, q⟩ | ⟨hqx, hqy, q⟩
  · exact zipTL_end I1 qx qy q
  · obtain ⟨its, rv, p1, _⟩ := I1.tuple hqx
    obtain ⟨its2, rv2, p2, _⟩ := I1.tuple hqy
    obtain ⟨o1, ho1, _⟩ := id p1
    obtain ⟨o2, ho2, _⟩ := id p2
    refine RZ.call_zipT (show s1.heap.IsTuple a its.toArray from p1) (show s1.heap.IsTuple b its2.toArray from p2) fun h' hz hTI hTO h1 h2 hsz hk => wpAny_pyIter_zip hz ?_
    have I2 : Inv X pins σ H1 { s1 with heap := h' } := I1.kept (t' := s1.toks) hk
    refine ⟨s1.heap.objs.size + 4, own2 (s1.heap.objs.size + 4) (s1.heap.objs.size + 2) (s1.heap.objs.size + 3) s1.heap.objs.size (s1.heap.objs.size + 1), _, _, H1, rfl, I2, RZ.turn_zipT (PySem.W.ktu_apart s1.heap.objs.size a b (Heap.lt_size ho1) (Heap.lt_size ho2)), ⟨hz, hTI, ⟨_, _, hTO⟩, h1, h2⟩, fun y hy => ?_, q⟩
    have hle := own2_le hy
    exact I1.fpOk hle (I1.hok.fresh hle)
theorem walk_zipTL {K : PySem.W.Frag} {a b : Addr} {xs ys : List V} {n : Nat} (h1 : xs.length = n) (h2 : ys.length = n) : Walk (ItTL K a b) n (fun H => SqT K H a xs ∧ SqL K H b ys) (YPair (fun i => xs[i]?) (fun i => ys[i]?)) := by
  refine ⟨fun i H hi q => ⟨xs, ys, xs[i]'(by omega), ys[i]'(by omega), q, by simp, by simp⟩, fun H q => ⟨xs, ys, q, by omega, by omega, .inl (by omega)⟩, fun i H v H' _ q y => ?_⟩
  obtain ⟨T, x, z, e1, e2, e3, e4, e5⟩ := y
  exact ⟨T, x, z, e1, e2, e3, e4 xs q.1, e5 ys q.2⟩
end Z

set_option Elab.async false
set_option linter.all false
set_option maxRecDepth 100000
set_option maxHeartbeats 800000
namespace Z
open PySem PySem.Spec PyProof.Rows L2
variable [TabCtx]
/-! ### dict(xs) of pairs whose first is a tuple -/
def mergeH (acc more : List (List L2.Key × Addr × Value)) : List (List L2.Key × Addr × Value) := more.foldl (fun a q => storedH a q.1 q.2.1 q.2.2) acc
theorem storedH_len (acc : List (List L2.Key × Addr × Value)) (k : List L2.Key) (a : Addr) (v : Value) : (storedH acc k a v).length ≤ acc.length + 1 := by
  unfold storedH
  split <;> simp
def mergeT (acc more : List (List L2.Key × V)) : List (List L2.Key × V) := more.foldl (fun a q => putK a q.1 q.2) acc
theorem mergeT_len : ∀ (more acc : List (List L2.Key × V)), (mergeT acc more).length ≤ acc.length + more.length
  | [], _ => Nat.le_refl _
  | q :: more, acc => by
    have h1 := mergeT_len more (putK acc q.1 q.2)
    have h2 := length_putK acc q.1 q.2
    show (mergeT (putK acc q.1 q.2) more).length ≤ _
    rw [List.length_cons]
    omega
theorem mergeT_nd : ∀ (more acc : List (List L2.Key × V)), ((acc ++ more).map (·.1)).Nodup → mergeT acc more = acc ++ more
  | [], acc, _ => by rw [List.append_nil]; rfl
  | q :: more, acc, nd => by
    have h : valV acc q.1 = none := by
      unfold valV
      rw [Option.map_eq_none_iff, List.find?_eq_none]
      intro z hz
      rw [List.map_append, List.nodup_append] at nd
      have := nd.2.2 z.1 (List.mem_map.mpr ⟨z, hz, rfl⟩) q.1 (by simp)
      simpa using this
    show mergeT (putK acc q.1 q.2) more = _
    rw [putK_new q.2 h, mergeT_nd more _ (by simpa using nd)]
    simp
section
variable {prog : Program} {w : World} {A : Around} {E : Value → Shared → Prop}
theorem upd_loopT {R : Result → Shared → Prop} {S I l : Addr} {items : Array Value} {res : Value} (hh : A.handled = none) (hu : A.in1.units < cLine) (hlI : l ≠ I) (hSI : S ≠ I) (hSl : S ≠ l) :
    ∀ (rest : List (List L2.Key × Addr × Value)) (i : Nat) (acc : List (List L2.Key × Addr × Value)) (ix : Int) (t : Tok) (s : Shared), items.size = i + rest.length → acc.length + rest.length ≤ sizeLine →
      (∀ (j : Nat) (q : List L2.Key × Addr × Value), rest[j]? = some q → ∃ b : Addr, items[i + j]? = some (.ref b) ∧ b ≠ S ∧ b ≠ I ∧ IsTup s.heap b #[.ref q.2.1, q.2.2] ∧ q.2.1 ≠ S ∧ q.2.1 ≠ I ∧ (tupleKind (mixKind prog w)).is s.heap q.1 q.2.1) →
      (∀ x ∈ acc, x.2.1 ≠ I) →
      s.heap.IsListIter I l i → s.heap.IsList l items → s.heap.DictOfH (tupleKind (mixKind prog w)) S acc →
      (∀ h' tk, h'.DictOfH (tupleKind (mixKind prog w)) S (mergeH acc rest) → (∀ b o, b ≠ S → b ≠ I → s.heap.get? b = some o → h'.get? b = some o) → R (.ok (.ret res)) { s with heap := h', toks := tk }) →
      codeAny (model prog w) A (.builtin "dict.update.loop" ⟨[.ref S, .ref I, .int ix t, res], []⟩) R s := by
  have kp : ∀ {h h' : Heap} {k : List L2.Key} {a : Addr}, a ≠ I → Heap.ExtBut I h h' → (tupleKind (mixKind prog w)).is h k a → (tupleKind (mixKind prog w)).is h' k a := by
    intro h h' k a n he x
    obtain ⟨o, its, m, ho, hc, hd, hi⟩ := x
    exact ⟨o, its, m, he _ _ n ho, hc, hd, hi⟩
  have dp : ∀ {h h' : Heap} {acc : List (List L2.Key × Addr × Value)}, (∀ x ∈ acc, x.2.1 ≠ I) → Heap.ExtBut I h h' → h.DictOfH (tupleKind (mixKind prog w)) S acc → h'.DictOfH (tupleKind (mixKind prog w)) S acc := by
    intro h h' acc n he x
    have x0 := x
    obtain ⟨_, _, _, _, _, _, _, his, _⟩ := x
    exact x0.at' (fun o e => he _ _ hSI e) fun y hy => kp (n y hy) he (his y hy)
  intro rest
  induction rest with
  | nil =>
    intro i acc ix t s hsz hln ht hn hit hl hm hR
    refine codeAny_builtin ud_entry ?_
    rw [Around.under_plainId ud_plain _]
    show wpAny _ A.in1 (pyNext (.ref I) >>= _) _ _ s
    refine wpAny_bind (wpAny_pyNext_list_end (A := A.in1) hh hit hl (by first | exact Array.getElem?_eq_none (Nat.le_of_eq hsz) | (simp at hsz; simp; omega)) fun h' he => ?_)
    show wpAny _ A.in1 (Builtin.Dict.addKeywords S [] >>= _) _ _ _
    refine wpAny_bind (wpAny_pure (wpAny_pure ?_))
    exact hR h' s.toks (dp hn he hm) fun b o _ hb e => he b o hb e
  | cons q rest ih =>
    intro i acc ix t s hsz hln ht hn hit hl hm hR
    obtain ⟨b, hb, hbS, hbI, htup, hqS, hqI, hk⟩ := ht 0 q rfl
    rw [List.length_cons] at hsz hln
    refine codeAny_builtin ud_entry ?_
    rw [Around.under_plainId ud_plain _]
    show wpAny _ A.in1 (pyNext (.ref I) >>= _) _ _ s
    refine wpAny_bind (wpAny_pyNext_list_item (x := .ref b) hit hl (by simpa using hb) fun h1 hit1 hs1 => ?_)
    have ht1 : IsTup h1 b #[.ref q.2.1, q.2.2] := htup.extBut hs1.extBut hbI
    have hl1 : h1.IsList l items := hl.extBut hs1.extBut hlI
    have hm1 : h1.DictOfH (tupleKind (mixKind prog w)) S acc := dp hn hs1.extBut hm
    have hk1 := kp hqI hs1.extBut hk
    obtain ⟨o, ho, hc, n, hd⟩ := id ht1
    show wpAny _ A.in1 (holding [Value.ref b] _ >>= _) _ _ _
    refine wpAny_bind (wpAny_holding ?_)
    refine wpAny_bind (wpAny_tryCatch ?_)
    unfold Builtin.Dict.pairItems
    refine wpAny_bind (wpAny_typeOf (T := "tuple") ⟨o, ho, hc⟩ ?_)
    rw [if_pos (by first | decide | rfl | simp)]
    refine wpAny_bind (wpAny_seqItems ho hd (wpAny_pure ?_))
    show wpAny _ A.in1 (holding [Value.ref q.2.1, q.2.2] (dictSet S (.ref q.2.1) q.2.2)) _ _ _
    obtain ⟨oS, esS, epS, hoS, _, hdS, _⟩ := id hm1
    refine wpAny_holding (wpAny_dictSet_heap (knd := tupleKind (mixKind prog w)) (k := q.1) (a := q.2.1) hu hk1 hm1 (fun h2 hm2 hs2 => ?_) (by omega))
    have kp2 : ∀ {k : List L2.Key} {a : Addr}, (tupleKind (mixKind prog w)).is h1 k a → (tupleKind (mixKind prog w)).is h2 k a := fun x => (tupleKind (mixKind prog w)).keeps x hoS hdS hs2
    refine wpAny_pure ⟨plainId_quiet ud_plain _, ih (i + 1) (storedH acc q.1 q.2.1 q.2.2) (ix + 1) 0 _ (show items.size = i + 1 + rest.length by omega) ?_ (fun j q' e => ?_) (fun x hx => ?_) ?_ ?_ hm2 fun h' tk hd' k => ?_⟩
    · have z := storedH_len acc q.1 q.2.1 q.2.2
      omega
    · obtain ⟨b', hb', hbS', hbI', htup', hqS', hqI', hk'⟩ := ht (j + 1) q' (by simpa using e)
      refine ⟨b', ?_, hbS', hbI', (htup'.extBut hs1.extBut hbI').extBut hs2.extBut hbS', hqS', hqI', kp2 (kp hqI' hs1.extBut hk')⟩
      rw [show i + 1 + j = i + (j + 1) by omega]
      exact hb'
    · rcases mem_storedH_key hx with ⟨y, hy, e1, e2⟩ | ⟨e1, e2⟩
      · rw [e2]; exact hn y hy
      · rw [e2]; exact hqI
    · exact hit1.at fun o' e => hs2.extBut I o' (Ne.symm hSI) e
    · exact hl1.extBut hs2.extBut (Ne.symm hSl)
    · exact hR h' tk hd' fun c oc h3 h4 e => k c oc h3 h4 (hs2.extBut c oc h3 (hs1.extBut c oc h4 e))
theorem call_dict_pairsT {s : Shared} {l : Addr} {ol : Obj} {items : Array Value} {n : Nat} {prs : List (List L2.Key × Addr × Value)} {Q : Value → Shared → Prop} (hh : A.handled = none) (hu : A.units + 64 < cLine) (hl : s.heap.get? l = some ol) (hc : ol.cls = .type "list") (hd : ol.dict = none)
    (hdat : ol.data = .seq items n) (hsz : items.size = prs.length) (hln : prs.length ≤ sizeLine)
    (ht : ∀ (j : Nat) (q : List L2.Key × Addr × Value), prs[j]? = some q → ∃ b : Addr, items[j]? = some (.ref b) ∧ IsTup s.heap b #[.ref q.2.1, q.2.2] ∧ (tupleKind (mixKind prog w)).is s.heap q.1 q.2.1)
    (h : ∀ h' tk, h'.DictOfH (tupleKind (mixKind prog w)) s.heap.objs.size (mergeH [] prs) → (∀ b o, s.heap.get? b = some o → h'.get? b = some o) → Q (.ref s.heap.objs.size) { s with heap := h', toks := tk }) :
    wpAny (model prog w) A (call (.type "dict") [.ref l]) Q E s := by
  refine callType_codes (Q₁ := fun obj s₁ => obj = .ref s.heap.objs.size ∧ s₁ = { s with heap := s.heap.push { cls := .type "dict", data := .dict #[] } }) PySem.F.kt_called_dict (PySem.F.kt_typeCall_dict_1 _) PySem.F.entry_dict_init (kt_code_dict_new _ ⟨rfl, rfl⟩) ?_
  rintro obj s₁ ⟨rfl, rfl⟩
  have hnew : (s.heap.push { cls := .type "dict", data := .dict #[] }).DictOfH (tupleKind (mixKind prog w)) s.heap.objs.size [] := Heap.DictOfH.new s.heap
  have k0 : ∀ b o, s.heap.get? b = some o → (s.heap.push { cls := .type "dict", data := .dict #[] }).get? b = some o := fun b o e => Heap.get?_push_of_some _ e
  refine ⟨hnew.typeIs, PySem.F.args_dict_init_2 _ _, ?_⟩
  unfold Builtin.«dict.__init__»
  refine wpAny_bind ?_
  unfold Builtin.Dict.selfAndRest
  refine wpAny_bind (wpAny_notOrdered_dict hnew.typeIs ?_)
  show wpAny _ _ (pure (s.heap.objs.size, [Value.ref l])) _ _ _
  refine wpAny_pure ?_
  show wpAny _ _ (Builtin.Dict.updateFrom "dict.__init__" s.heap.objs.size (.ref l) [] .none) _ _ _
  unfold Builtin.Dict.updateFrom
  refine wpAny_bind (wpAny_typeOf (T := "list") ⟨ol, k0 _ _ hl, hc⟩ ?_)
  rw [if_pos (by first | decide | rfl | simp)]
  refine wpAny_bind (miss_list (k0 _ _ hl) hc hdat hd hh fun h1 tk1 hk1 => ?_)
  rw [if_pos (show (none : Option Value).isNone = true from rfl)]
  refine wpAny_bind (wpAny_rule ?_)
  have hl1 : h1.IsList l items := ⟨ol, hk1 _ _ (k0 _ _ hl), hc, n, hdat⟩
  have hS1 : s.heap.objs.size < h1.objs.size := by
    have e : (s.heap.push { cls := .type "dict", data := .dict #[] }).get? s.heap.objs.size = some { cls := .type "dict", data := .dict #[] } := Heap.get?_push_size _ rfl
    exact Heap.lt_size (hk1 _ _ e)
  refine wpAny_bind (wpAny_pyIter_list hl1 ?_)
  have k2 : ∀ b o, h1.get? b = some o → (h1.push { cls := .type "list_iterator", data := .fields #[.ref l, .int 0 0] }).get? b = some o := fun b o e => Heap.get?_push_of_some _ e
  have hlt : l < s.heap.objs.size := Heap.lt_size hl
  have kk : ∀ {k : List L2.Key} {a : Addr}, (tupleKind (mixKind prog w)).is s.heap k a → (tupleKind (mixKind prog w)).is (h1.push { cls := .type "list_iterator", data := .fields #[.ref l, .int 0 0] }) k a := by
    intro k a x
    obtain ⟨o, its, m, ho, hc, hd, hi⟩ := x
    exact ⟨o, its, m, k2 _ _ (hk1 _ _ (k0 _ _ ho)), hc, hd, hi⟩
  have key := upd_loopT (prog := prog) (w := w) (A := A.in1) (R := wants (fun r s₂ => r = .none ∧ Q (.ref s.heap.objs.size) s₂) E) (S := s.heap.objs.size) (I := h1.objs.size) (l := l) (items := items) (res := Value.none) hh (by show A.units + 1 + 1 < cLine; omega)
    (Nat.ne_of_lt (Nat.lt_trans hlt hS1)) (Nat.ne_of_lt hS1) (Nat.ne_of_gt hlt) prs 0 [] 0 0
    { s with heap := h1.push { cls := .type "list_iterator", data := .fields #[.ref l, .int 0 0] }, toks := tk1 } (by rw [hsz, Nat.zero_add]) (by rw [List.length_nil, Nat.zero_add]; exact hln)
    (fun j q e => by
      obtain ⟨b, e1, e2, e3⟩ := ht j q e
      have hb : b < s.heap.objs.size := e2.lt
      have hq : q.2.1 < s.heap.objs.size := by
        obtain ⟨o, its, m, ho, _⟩ := e3
        exact Heap.lt_size ho
      exact ⟨b, by rw [Nat.zero_add]; exact e1, Nat.ne_of_lt hb, Nat.ne_of_lt (Nat.lt_trans hb hS1), e2.keeps fun c o z => k2 _ _ (hk1 _ _ (k0 _ _ z)), Nat.ne_of_lt hq, Nat.ne_of_lt (Nat.lt_trans hq hS1), kk e3⟩)
    (fun _ h => nomatch h)
    ⟨_, Heap.get?_push_size _ rfl, rfl, rfl⟩ (hl1.at fun o e => k2 _ _ e) (hnew.at' (fun o e => k2 _ _ (hk1 _ _ e)) fun _ h => nomatch h)
    (fun h' tk hd' k => ⟨rfl, h h' tk hd' fun b o e => k b o (Nat.ne_of_lt (Heap.lt_size e)) (Nat.ne_of_lt (Nat.lt_trans (Heap.lt_size e) hS1)) (k2 _ _ (hk1 _ _ (k0 _ _ e)))⟩)
  first
    | exact wpAny_pure ⟨plainId_quiet ud_plain _, key⟩
    | exact wpAny_bind (wpAny_pure (wpAny_pure ⟨plainId_quiet ud_plain _, key⟩))
end
section
variable {X : Cx}
/-- a pair (key, value), the key a tuple of ints and texts -/
def prT (K : PySem.W.Frag) (H : Hp) (p : Addr) (kv : List L2.Key × V) : Prop := ∃ b, SqT K H p [.ref b, kv.2] ∧ H b = some (.tup (kv.1.map kV))
theorem pairs_ofT {pins : List (Addr × Obj)} {σ : L2.St} {H : Hp} {s : Shared} (I : Inv X pins σ H s) : ∀ {ps : List Addr} {kvs : List (List L2.Key × V)}, Paired (prT X.K H) ps kvs →
    ∃ prs : List (List L2.Key × Addr × Value), KT H kvs prs ∧ prs.length = ps.length ∧ ∀ (j : Nat) (q : List L2.Key × Addr × Value), prs[j]? = some q → ∃ b : Addr, ps[j]? = some b ∧ IsTup s.heap b #[.ref q.2.1, q.2.2] ∧ (tupleKind (mixKind X.prog X.w)).is s.heap q.1 q.2.1
  | _, _, .nil => ⟨[], .nil, rfl, fun j q e => by simp at e⟩
  | _, _, .cons (a := p) (b := kv) h t => by
    obtain ⟨prs, r, hl, hp⟩ := pairs_ofT I t
    obtain ⟨c, h1, h2⟩ := h
    obtain ⟨its, rv, ht, _⟩ := I.tuple h1
    obtain ⟨u, y, ei, ru, ry⟩ := vals2 rv
    subst ei
    cases (show u = Value.ref c from ru)
    refine ⟨(kv.1, c, y) :: prs, .cons ⟨rfl, h2, ry⟩ r, by rw [List.length_cons, List.length_cons, hl], fun j q e => ?_⟩
    cases j with
    | zero =>
      have e' : (kv.1, c, y) = q := Option.some.inj e
      subst e'
      exact ⟨p, rfl, ht, key_of I.hok h2⟩
    | succ j =>
      obtain ⟨b, e1, e2, e3⟩ := hp j q (by simpa using e)
      exact ⟨b, by simpa using e1, e2, e3⟩
theorem KT.merge {H : Hp} : ∀ {more : List (List L2.Key × V)} {rs : List (List L2.Key × Addr × Value)} {kvs : List (List L2.Key × V)} {vs : List (List L2.Key × Addr × Value)}, KT H more rs → KT H kvs vs → KT H (mergeT kvs more) (mergeH vs rs)
  | _, _, _, _, .nil, h => h
  | _, _, _, _, .cons (a := p) (b := q) h t, h2 => by
    obtain ⟨e1, e2, e3⟩ := h
    have h3 := h2.put p.1 (b := q.2.1) e2 e3
    rw [e1] at h3
    have := KT.merge t h3
    show KT H (mergeT (putK _ p.1 p.2) _) (mergeH (storedH _ q.1 q.2.1 q.2.2) _)
    rw [e1]
    exact this
def rDictT (K : PySem.W.Frag) : List V → Hp → VK → Prop := fun xs H Q => ∃ (a : Addr) (ps : List Addr) (kvs : List (List L2.Key × V)), xs = [.ref a] ∧ SqL K H a (ps.map V.ref) ∧ Paired (prT K H) ps kvs ∧ ∀ p, H p = none → Q (.ref p) (upd H p (.dT (mergeT [] kvs)))
theorem call_dictT (K : PySem.W.Frag) (hcalm : X.calm = true) (hu : X.A.units + 64 < cLine) (hK : X.K = K := by rfl) : CallR X (.type "dict") (rDictT K) := by
  subst hK
  intro pins s σ H xs us Q I r q
  obtain ⟨a, ps, kvs, ex, hq, hp, q⟩ := q
  subst ex
  obtain ⟨u, eu, rx⟩ := vals1 r
  subst eu
  cases rx
  obtain ⟨its, rv, pl, hz⟩ := I.list hq
  have ei := refs_at rv
  subst ei
  rw [List.length_map] at hz
  obtain ⟨prs, rel, hl, hpr⟩ := pairs_ofT I hp
  obtain ⟨o, n, ho, hc, hd, hdat⟩ := pl
  refine call_dict_pairsT (prs := prs) (I.ok.hd hcalm) hu ho hc hd hdat (by simp [hl]) (by rw [hl]; exact hz) (fun j q' e => ?_) fun h' tk hd' k => ?_
  · obtain ⟨b, e1, e2, e3⟩ := hpr j q' e
    exact ⟨b, by simp [e1], e2, e3⟩
  · have hm : (s.heap.objs.size == sysModules) = false := beq_eq_false_iff_ne.mpr (Nat.ne_of_gt I.big)
    have hlen : (mergeT [] kvs).length ≤ sizeLine := by
      refine Nat.le_trans (mergeT_len kvs []) ?_
      rw [List.length_nil, Nat.zero_add, Paired.length rel, hl]
      exact hz
    have fr := I.hok.fresh (Nat.le_refl s.heap.objs.size)
    have hkt : KT (upd H s.heap.objs.size (.dT (mergeT [] kvs))) (mergeT [] kvs) (mergeH [] prs) := (KT.merge rel .nil).keeps fun b ys e => by
      rw [upd_ne (ne_of_none e fr)]
      exact e
    obtain ⟨od, es, ep, h1, h2, h3, h4, _, h5⟩ := hd'
    exact ⟨.ref s.heap.objs.size, upd H s.heap.objs.size (.dT (mergeT [] kvs)), I.laid (t' := tk) k (Nat.le_refl _) (show ObjOk X.prog X.w _ _ _ (.dT (mergeT [] kvs)) from ⟨hlen, hm, mergeH [] prs, hkt, od, es, ep, h1, h2, h3, h4, h5⟩), rfl, q _ fr⟩
end
theorem pi_revK (K : PySem.W.Frag) {X : Cx} {tg e : Expr} {ta : TA} {p pos : Pos} (hg : Gl X "reversed") (hm : X.mg "reversed" = none) (ha : PA X [e] ta) (hs : starEach [e] X.env = [(false, eval e X.env)] := by rfl) (hK : X.K = K := by rfl) : PI X tg (.Call (.Name "reversed" p) [e] [] pos) (iRev K ta) := hK ▸ pi_reversed hg hm ha hs
/-- a comprehension that leaves all as it was: of each thing made what is known of it -/
theorem lc_dts {J : It} {n : Nat} {G : Hp → Prop} {Y : Nat → Hp → V → Hp → Prop} (w : Walk J n G Y) {g : TG} {tt : TT} {te : TE} {vs : List Nat} {σ : L2.St} {H1 : Hp} {D : Addr} {B : List Addr} {Qd : Hp → Prop} (Pd : PyData → Prop)
    (hD : H1 D = none) (hB : Bk B H1) (hG : ∀ H', Same H1 H' → G H') (hn : n ≤ 100000)
    (hs : ∀ (i : Nat) (x : V) (H' H'' : Hp) (Ny : V → Hp → Prop) (Nn : Hp → Prop), i < n → Same H1 H' → Bk (D :: B) H' → (∃ us, H' D = some (.lst us)) → Y i H' x H'' → (∀ (v : V) (d : PyData) H4, Same H' H4 → Dt (D :: B) H4 v d → Pd d → Ny v H4) →
      g x (wipe σ vs) H'' fun σ2 H2 => wipe σ2 vs = wipe σ vs ∧ tt σ2 H2 fun b H3 => if b = true then te σ2 H3 Ny else Nn H3)
    (hd : ∀ (H' : Hp) (ws : List V) (ds : List PyData), Same H1 H' → H' D = some (.lst ws) → DtA (D :: B) H' ws ds → ds.length = n → (∀ d ∈ ds, Pd d) → Qd H') :
    ∃ W : Nat → Nat → Hp → Prop, (∃ m, W 0 m (upd H1 D (.lst []))) ∧ ∀ i m H, W i m H →
      (J.stop i H ∧ Qd H) ∨ (J.go i H ∧ ∃ Nx : Hp → Prop, (∀ H', Nx H' → ∃ m', m' < m ∧ W (i + 1) m' H') ∧ ∀ x H', J.yld i H x H' → g x (wipe σ vs) H' fun σ2 H2 => wipe σ2 vs = wipe σ vs ∧ tt σ2 H2 fun b H3 =>
        if b = true then te σ2 H3 fun y H4 => ∃ acc, H4 D = some (.lst acc) ∧ acc.length < sizeLine ∧ Nx (upd H4 D (.lst (acc ++ [y]))) else Nx H3) := by
  refine lc_it w (fun i H' => Same H1 H' ∧ ∃ ws ds, H' D = some (.lst ws) ∧ DtA (D :: B) H' ws ds ∧ ds.length = i ∧ ∀ d ∈ ds, Pd d) ⟨sm_new hD, [], [], upd_same, .nil, rfl, fun _ h => (nomatch h)⟩ (fun i H' _ h => hG H' h.1) (fun i x H' H'' hi h y => ?_) (fun H' h => ?_)
  · obtain ⟨s1, ws, ds, eD, hA, en, hp⟩ := h
    refine hs i x H' H'' _ _ hi s1 ((hB.go (Go.of (B := B) s1)).cons eD) ⟨ws, eD⟩ y (fun z d H4 s4 dz pd => ?_)
    have eD4 := s4 _ _ eD
    have gm : Go (D :: B) H4 (upd H4 D (.lst (ws ++ [z]))) := Go.refl.at (List.mem_cons_self ..)
    have lw := hA.len
    refine ⟨ws, s4 _ _ eD, sz (by omega), sm_mut (s1.trans s4) hD, ws ++ [z], ds ++ [d], upd_same, ((hA.s s4).g gm).app (.one (dz.g gm)), by simp; omega, fun e he => ?_⟩
    rcases List.mem_append.mp he with he | he
    · exact hp e he
    · rw [List.mem_singleton.mp he]
      exact pd
  · obtain ⟨s1, ws, ds, eD, hA, en, hp⟩ := h
    exact hd H' ws ds s1 eD hA en hp
end Z

set_option Elab.async false
set_option linter.all false
set_option maxRecDepth 100000
set_option maxHeartbeats 400000
namespace Z
open PySem PySem.Spec PyProof.Rows L2
variable [TabCtx]
/-! ### dicts of one's own, by their data -/
theorem kD_inj : ∀ {a b : Key}, kD a = kD b → a = b
  | .inl _, .inl _, h => by cases h; rfl
  | .inr _, .inr _, h => by cases h; rfl
  | .inl _, .inr _, h => by cases h
  | .inr _, .inl _, h => by cases h
theorem kDs_inj : ∀ {a b : List Key}, a.map kD = b.map kD → a = b
  | [], [], _ => rfl
  | x :: a, y :: b, h => by
    rw [List.map_cons, List.map_cons] at h
    injection h with h1 h2
    rw [kD_inj h1, kDs_inj h2]
  | [], _ :: _, h => by cases h
  | _ :: _, [], h => by cases h
theorem tD_inj {a b : List Key} (h : tD a = tD b) : a = b := by
  unfold tD at h
  injection h with h
  exact kDs_inj h
open Classical in
noncomputable def dGet (kvs : List (PyData × PyData)) (d : PyData) : Option PyData := (kvs.find? fun p => decide (p.1 = d)).map (·.2)
theorem dGet_nil {d : PyData} : dGet [] d = none := rfl
theorem dGet_pos {p : PyData × PyData} {r : List (PyData × PyData)} {d : PyData} (e : p.1 = d) : dGet (p :: r) d = some p.2 := by simp [dGet, List.find?_cons, e]
theorem dGet_neg {p : PyData × PyData} {r : List (PyData × PyData)} {d : PyData} (e : ¬ p.1 = d) : dGet (p :: r) d = dGet r d := by simp [dGet, List.find?_cons, e]
theorem dGet_map {α : Type} {f g : α → PyData} : ∀ {xs : List α} {x : α}, x ∈ xs → (∀ y ∈ xs, f y = f x → g y = g x) → dGet (xs.map fun y => (f y, g y)) (f x) = some (g x)
  | [], _, h, _ => nomatch h
  | y :: ys, x, h, u => by
    rw [List.map_cons]
    by_cases c : f y = f x
    · rw [dGet_pos c]
      exact congrArg some (u y (List.mem_cons_self ..) c)
    · rw [dGet_neg c]
      rcases List.mem_cons.mp h with e | e
      · exact absurd (by rw [e]) c
      · exact dGet_map e fun z hz => u z (List.mem_cons_of_mem _ hz)
theorem dGet_none {kvs : List (PyData × PyData)} {d : PyData} (h : ∀ p ∈ kvs, p.1 ≠ d) : dGet kvs d = none := by
  induction kvs with
  | nil => rfl
  | cons p r ih => rw [dGet_neg (h p (List.mem_cons_self ..)), ih fun q hq => h q (List.mem_cons_of_mem _ hq)]
section
variable {κ : Type} [DecidableEq κ] {B : List Addr} {H : Hp} {φ : κ → PyData}
theorem get_some (inj : ∀ {a b : κ}, φ a = φ b → a = b) : ∀ {kv : List (κ × V)} {kvs : List (PyData × PyData)}, kvs.map (·.1) = kv.map (fun p => φ p.1) → DtA B H (kv.map (·.2)) (kvs.map (·.2)) → ∀ {d x : PyData}, dGet kvs d = some x → ∃ k v, d = φ k ∧ valV kv k = some v ∧ Dt B H v x
  | [], [], _, _, d, x, h => by cases h
  | p :: kv, q :: kvs, h1, h2, d, x, h => by
    rw [List.map_cons, List.map_cons] at h1 h2
    injection h1 with e1 e2
    cases h2 with
    | cons hv hr =>
      by_cases c : q.1 = d
      · rw [dGet_pos c] at h
        cases h
        exact ⟨p.1, p.2, by rw [← c, e1], valV_pos rfl, hv⟩
      · rw [dGet_neg c] at h
        obtain ⟨k, v, ed, ev, dv⟩ := get_some inj e2 hr h
        refine ⟨k, v, ed, ?_, dv⟩
        rw [valV_neg fun z => c (by rw [e1, z, ed])]
        exact ev
  | [], _ :: _, h, _, _, _, _ => by cases h
  | _ :: _, [], h, _, _, _, _ => by cases h
theorem get_none (inj : ∀ {a b : κ}, φ a = φ b → a = b) {k : κ} : ∀ {kv : List (κ × V)} {kvs : List (PyData × PyData)}, kvs.map (·.1) = kv.map (fun p => φ p.1) → dGet kvs (φ k) = none → valV kv k = none
  | [], _, _, _ => rfl
  | p :: kv, q :: kvs, h1, h => by
    rw [List.map_cons, List.map_cons] at h1
    injection h1 with e1 e2
    by_cases c : q.1 = φ k
    · rw [dGet_pos c] at h
      cases h
    · rw [dGet_neg c] at h
      rw [valV_neg fun z => c (by rw [e1, z])]
      exact get_none inj e2 h
  | _ :: _, [], h, _ => by cases h
end
theorem kD_dt {B : List Addr} {H : Hp} {v : V} : ∀ {k : Key}, Dt B H v (kD k) → v = kV k
  | .inl _, h => by cases h; rfl
  | .inr _, h => by cases h; rfl
theorem kDs_dt {B : List Addr} {H : Hp} : ∀ {ks : List Key} {vs : List V}, DtA B H vs (ks.map kD) → vs = ks.map kV
  | [], _, h => by cases h; rfl
  | k :: ks, _, h => by
    rw [List.map_cons] at h
    cases h with
    | cons h1 h2 => rw [kD_dt h1, kDs_dt h2]; rfl
theorem tD_dt {B : List Addr} {H : Hp} {v : V} {ks : List Key} (h : Dt B H v (tD ks)) : ∃ b, v = .ref b ∧ H b = some (.tup (ks.map kV)) := by
  obtain ⟨a, vs, rfl, _, ha, hA⟩ := Dt.tupI (by unfold tD at h; exact h)
  rw [kDs_dt hA] at ha
  exact ⟨a, rfl, ha⟩
theorem DicAt.get {B B' : List Addr} {H : Hp} {a : Addr} {tp : Bool} {kvs : List (PyData × PyData)} {y : V} {d x : PyData} (h : DicAt B H a tp kvs) (dy : Dt B' H y d) (e : dGet kvs d = some x) : ∃ v, DGet H a y (some v) ∧ Dt B H v x := by
  cases tp with
  | true =>
    obtain ⟨kv, h1, h2, h3⟩ := h
    obtain ⟨k, v, ed, ev, dv⟩ := get_some (φ := tD) tD_inj h2 h3 e
    subst ed
    obtain ⟨b, rfl, hb⟩ := tD_dt dy
    exact ⟨v, by rw [← ev]; exact DGet.t h1 hb, dv⟩
  | false =>
    obtain ⟨kv, h1, h2, h3⟩ := h
    obtain ⟨k, v, ed, ev, dv⟩ := get_some (φ := kD) kD_inj h2 h3 e
    subst ed
    rw [kD_dt dy]
    exact ⟨v, by rw [← ev]; exact DGet.k h1, dv⟩
section
variable {K : PySem.W.Frag}
/-- d[k], k there -/
def fGetK (i : Nat) (fe : DE) : DE := fun δ n K => ∃ tp kvs, δ[i]? = some (.k tp kvs) ∧ fe δ n fun d m => ∃ x, dGet kvs d = some x ∧ K x m
theorem se_getK {i : Nat} {ty : TE} {fe : DE} (h : SE ty fe) : SE (tDGet (tVar i) ty) (fGetK i fe) := ⟨fun {L B O H σ δ n Q K'} r ⟨tp, kvs, ek, k⟩ q => by
  obtain ⟨a, ea, ha, hd⟩ := r.kk i tp kvs ek
  refine ⟨_, ea, h.run r k fun d m y H2 ⟨x, e2, k2⟩ g2 l2 d2 => ?_⟩
  have hd2 := hd.to (hd.kg g2 (r.ob a ha).2) fun _ _ hA => hA.g (g2.w r.lb)
  obtain ⟨u, hu, du⟩ := hd2.get d2 e2
  exact ⟨a, u, rfl, hu, q _ _ _ _ k2 g2 l2 du⟩⟩
/-- a dict of one's own is made -/
theorem Rel.mk_k {L B O : List Addr} {H H' : Hp} {σ : L2.St} {δ : List Sl} {n m : Nat} {a : Addr} {tp : Bool} {kvs : List (PyData × PyData)} (h : Rel L B O H σ δ n) (i : Nat) (ha : H a = none) (g : Go L H H') (hd : DicAt (a :: B) H' a tp kvs) (f : Lfs L H' m) : Rel L (a :: B) (a :: O) H' (σ.set i (some (.ref a))) (δ.set i (.k tp kvs)) m := by
  have aL : a ∉ L := fun z => (h.bk a (h.lb a z)).1 ha
  obtain ⟨o, eo, no, nl, nt⟩ := hd.at_
  have r := h.fr ha g (by rw [eo]; exact ⟨(fun z => nomatch z), fun vs z => nt vs (Option.some.inj z)⟩) f
  have oldO : ∀ b ∈ O, b ≠ a := fun b hb z => (h.bk b (h.ob b hb).1).1 (by rw [z]; exact ha)
  exact {
    len := by rw [List.length_set, List.length_set]; exact h.len
    dd := fun j x e => by
      rcases getset e with ⟨_, z, _⟩ | ⟨z, e⟩
      · cases z
      · rw [List.getElem?_set_ne (Ne.symm z)]; exact r.dd j x e
    oo := fun j xs e => by
      rcases getset e with ⟨_, z, _⟩ | ⟨z, e⟩
      · cases z
      · rw [List.getElem?_set_ne (Ne.symm z)]
        obtain ⟨b, vs, e1, hb, hs, hA⟩ := r.oo j xs e
        exact ⟨b, vs, e1, List.mem_cons_of_mem _ hb, hs, hA⟩
    uq := fun j k xs ys c e1 e2 => by
      rcases getset e1 with ⟨_, z, _⟩ | ⟨z1, e1⟩
      · cases z
      rcases getset e2 with ⟨_, z, _⟩ | ⟨z2, e2⟩
      · cases z
      rw [List.getElem?_set_ne (Ne.symm z1), List.getElem?_set_ne (Ne.symm z2)]
      exact r.uq j k xs ys c e1 e2
    kk := fun j tq ks e => by
      rcases getset e with ⟨rfl, z, l⟩ | ⟨z, e⟩
      · cases z
        exact ⟨a, by rw [List.getElem?_set_self (by rw [h.len]; exact l)], List.mem_cons_self .., hd⟩
      · rw [List.getElem?_set_ne (Ne.symm z)]
        obtain ⟨b, e1, hb, hd'⟩ := r.kk j tq ks e
        exact ⟨b, e1, List.mem_cons_of_mem _ hb, hd'⟩
    uk := fun j k t t' xs ys c p1 p2 f1 f2 => by
      rcases getset p1 with ⟨rfl, _, l1⟩ | ⟨z1, e1⟩
      · rw [List.getElem?_set_self (by rw [h.len]; exact l1)] at f1
        cases f1
        rcases getset p2 with ⟨rfl, _, _⟩ | ⟨z2, e2⟩
        · rfl
        · rw [List.getElem?_set_ne (Ne.symm z2)] at f2
          obtain ⟨b, e3, hb, _⟩ := h.kk k _ _ e2
          rw [f2] at e3
          cases e3
          exact absurd rfl (oldO _ hb)
      · rw [List.getElem?_set_ne (Ne.symm z1)] at f1
        rcases getset p2 with ⟨rfl, _, l2⟩ | ⟨z2, e2⟩
        · rw [List.getElem?_set_self (by rw [h.len]; exact l2)] at f2
          cases f2
          obtain ⟨b, e3, hb, _⟩ := h.kk j _ _ e1
          rw [f1] at e3
          cases e3
          exact absurd rfl (oldO _ hb)
        · rw [List.getElem?_set_ne (Ne.symm z2)] at f2
          exact h.uk j k _ _ _ _ c e1 e2 f1 f2
    ll := fun j e => by
      rcases getset e with ⟨_, z, _⟩ | ⟨z, e⟩
      · cases z
      · rw [List.getElem?_set_ne (Ne.symm z)]; exact r.ll j e
    vv := fun j u e => by
      rcases getset e with ⟨_, z, _⟩ | ⟨z, e⟩
      · cases z
      · rw [List.getElem?_set_ne (Ne.symm z)]; exact r.vv j u e
    bk := r.bk
    ob := fun b hb => by
      rcases List.mem_cons.mp hb with z | z
      · rw [z]; exact ⟨List.mem_cons_self .., aL⟩
      · exact r.ob b z
    lb := r.lb
    lf := r.lf }
/-- an expression that makes a new dict -/
abbrev DKs := List Sl → Nat → (Bool → List (PyData × PyData) → Nat → Prop) → Prop
structure SK (te : TE) (f : DKs) : Prop where
  run : ∀ {L B O : List Addr} {H : Hp} {σ : L2.St} {δ : List Sl} {n : Nat} {Q : VK} {K : Bool → List (PyData × PyData) → Nat → Prop}, Rel L B O H σ δ n → f δ n K → (∀ tp xs m a H', K tp xs m → Go L H H' → Lfs L H' m → H a = none → DicAt (a :: B) H' a tp xs → Q (.ref a) H') → te σ H Q
def fAsgK (i : Nat) (f : DKs) : DS := fun E δ n => f δ n fun tp kvs m => E.nx (δ.set i (.k tp kvs)) m
theorem ss_asgK {i : Nat} {te : TE} {f : DKs} (h : SK te f) : SS (tAsg te (gName i)) (fAsgK i f) := ⟨fun at' k e => h.run at'.rel k fun tp kvs m a H' k2 g l e1 hd => by
  refine e.nx k2 ⟨at'.fo, fun b hb => ⟨List.mem_cons_of_mem _ (at'.sb b hb).1, fun z => ?_⟩, at'.fo.nw at'.fr e1 g, at'.rel.mk_k i e1 g hd l⟩
  rcases List.mem_cons.mp z with z | z
  · rw [z] at hb
    exact (at'.rel.bk a (at'.sb a hb).1).1 e1
  · exact (at'.sb b hb).2 z⟩
/-- dict(a list of pairs (tuple of ints, anything)), the first ones unlike -/
def prD (p : List Int × PyData) : PyData := .tuple [eC p.1, p.2]
def fDictT (fe : DE) : DKs := fun δ n K => fe δ n fun d m => ∃ ps : List (List Int × PyData), d = .list (ps.map prD) ∧ (ps.map (·.1)).Nodup ∧ K true (ps.map fun p => (eC p.1, p.2)) m
theorem eC_tD (ns : List Int) : eC ns = tD (ns.map Sum.inl) := by
  unfold eC tD
  rw [List.map_map]
  rfl
theorem pairs_at {B : List Addr} {H : Hp} : ∀ {ps : List (List Int × PyData)} {vs : List V}, DtA B H vs (ps.map prD) → ∃ (as : List Addr) (kv : List (List L2.Key × V)), vs = as.map V.ref ∧ Paired (prT K H) as kv ∧ kv.map (·.1) = ps.map (fun p => p.1.map Sum.inl) ∧ DtA B H (kv.map (·.2)) (ps.map (·.2))
  | [], _, h => by cases h; exact ⟨[], [], rfl, .nil, rfl, .nil⟩
  | p :: ps, _, h => by
    rw [List.map_cons] at h
    cases h with
    | cons h1 h2 =>
      obtain ⟨as, kv, e1, e2, e3, e4⟩ := pairs_at h2
      obtain ⟨a, ws, rfl, _, ha, hA⟩ := h1.tupI
      cases hA with
      | cons g1 g2 => cases g2 with
        | cons g2 g3 =>
          cases g3
          obtain ⟨b, rfl, _, hb⟩ := g1.col
          refine ⟨a :: as, (p.1.map Sum.inl, _) :: kv, by rw [e1]; rfl, .cons ⟨b, SqT.of ha, ?_⟩ e2, by rw [List.map_cons, List.map_cons, e3], .cons g2 e4⟩
          rw [hb, List.map_map]
          rfl
theorem inlS_inj {α β : Type} : ∀ {a b : List α}, a.map (Sum.inl : α → α ⊕ β) = b.map Sum.inl → a = b
  | [], [], _ => rfl
  | x :: a, y :: b, h => by
    rw [List.map_cons, List.map_cons] at h
    injection h with h1 h2
    injection h1 with h1
    rw [h1, inlS_inj h2]
  | [], _ :: _, h => by cases h
  | _ :: _, [], h => by cases h
theorem nodup_mapI {α β : Type} {f : α → β} (inj : ∀ {a b : α}, f a = f b → a = b) : ∀ {xs : List α}, xs.Nodup → (xs.map f).Nodup
  | [], _ => .nil
  | x :: xs, h => by
    rw [List.map_cons]
    have h' := List.nodup_cons.mp h
    refine List.nodup_cons.mpr ⟨fun z => ?_, nodup_mapI inj h'.2⟩
    obtain ⟨y, hy, e⟩ := List.mem_map.mp z
    rw [inj e] at hy
    exact h'.1 hy
theorem sk_dictT {tl : TE} {fe : DE} (h : SE tl fe) : SK (tCB (rDictT K) (tCons tl tNil)) (fDictT fe) := ⟨fun {L B O H σ δ n Q K'} r k q => h.run r k fun d m v H1 ⟨ps, e, nd, k1⟩ g l dv => by
  subst e
  obtain ⟨a, vs, rfl, _, ha, hA⟩ := dv.lst2
  obtain ⟨as, kv, rfl, e2, e3, e4⟩ := pairs_at (K := K) hA
  have ndk : (kv.map (·.1)).Nodup := by
    rw [e3, show (ps.map fun p => p.1.map (Sum.inl : Int → L2.Key)) = (ps.map (·.1)).map (fun x => x.map Sum.inl) by rw [List.map_map]; rfl]
    exact nodup_mapI (fun e => inlS_inj e) nd
  refine ⟨a, as, kv, rfl, SqL.of ha, e2, fun p hp => ?_⟩
  have em : mergeT [] kv = kv := by
    have := mergeT_nd kv [] (by simpa using ndk)
    simpa using this
  rw [em]
  refine q _ _ m p _ k1 (g.trans (Go.new hp)) (l.new hp) (g.free hp) ⟨kv, upd_same, ?_, ?_⟩
  · rw [show kv.map (fun p => tD p.1) = (kv.map (·.1)).map tD by rw [List.map_map]; rfl, e3, List.map_map, List.map_map]
    exact List.map_congr_left fun x _ => eC_tD x.1
  · rw [List.map_map]
    exact (e4.fr hp).s (sm_new hp)⟩
end
end Z

set_option Elab.async false
set_option linter.all false
set_option maxRecDepth 100000
set_option maxHeartbeats 400000
namespace Z
open PySem PySem.Spec PyProof.Rows L2
open PySem.W (maxD minD min_list_data max_list_data)
variable [TabCtx]
/-! ### max, min of alike data -/
theorem dlt_irr (x : PyData) : PySem.W.dataLt x x = false := (listOrd itemOrd).irrefl (PySem.W.keyToks x)
theorem dlt_neg {x y z : PyData} (h : PySem.W.dataLt x z = true) : PySem.W.dataLt x y = true ∨ PySem.W.dataLt y z = true := (listOrd itemOrd).negTrans (PySem.W.keyToks x) (PySem.W.keyToks y) (PySem.W.keyToks z) h
theorem dlt_le {x y z : PyData} (h1 : PySem.W.dataLt y x = false) (h2 : PySem.W.dataLt z y = false) : PySem.W.dataLt z x = false := by
  cases e : PySem.W.dataLt z x with
  | false => rfl
  | true =>
    rcases dlt_neg (y := y) e with h | h
    · rw [h2] at h; cases h
    · rw [h1] at h; cases h
theorem dlt_asym {x y : PyData} (h : PySem.W.dataLt x y = true) : PySem.W.dataLt y x = false := by
  cases e : PySem.W.dataLt y x with
  | false => rfl
  | true =>
    have := (listOrd itemOrd).trans (PySem.W.keyToks x) (PySem.W.keyToks y) (PySem.W.keyToks x) h e
    rw [(listOrd itemOrd).irrefl] at this
    cases this
theorem max_is : ∀ (xs : List PyData) (x : PyData), maxD x xs ∈ x :: xs ∧ ∀ y ∈ x :: xs, PySem.W.dataLt (maxD x xs) y = false
  | [], x => ⟨List.mem_cons_self .., fun y hy => by
    have e : y = x := by simpa using hy
    rw [e]
    exact dlt_irr x⟩
  | y :: ys, x => by
    have e : maxD x (y :: ys) = maxD (if PySem.W.dataLt x y = true then y else x) ys := rfl
    rw [e]
    by_cases c : PySem.W.dataLt x y = true
    · rw [if_pos c]
      obtain ⟨h1, h2⟩ := max_is ys y
      refine ⟨List.mem_cons_of_mem _ h1, fun z hz => ?_⟩
      rcases List.mem_cons.mp hz with q | q
      · rw [q]
        exact dlt_le (dlt_asym c) (h2 y (List.mem_cons_self ..))
      · exact h2 z q
    · rw [if_neg c]
      obtain ⟨h1, h2⟩ := max_is ys x
      refine ⟨?_, fun z hz => ?_⟩
      · rcases List.mem_cons.mp h1 with q | q
        · rw [q]; exact List.mem_cons_self ..
        · exact List.mem_cons_of_mem _ (List.mem_cons_of_mem _ q)
      rcases List.mem_cons.mp hz with q | q
      · rw [q]; exact h2 x (List.mem_cons_self ..)
      · rcases List.mem_cons.mp q with q | q
        · rw [q]
          exact dlt_le (Bool.eq_false_iff.mpr c) (h2 x (List.mem_cons_self ..))
        · exact h2 z (List.mem_cons_of_mem _ q)
theorem min_is : ∀ (xs : List PyData) (x : PyData), minD x xs ∈ x :: xs ∧ ∀ y ∈ x :: xs, PySem.W.dataLt y (minD x xs) = false
  | [], x => ⟨List.mem_cons_self .., fun y hy => by
    have e : y = x := by simpa using hy
    rw [e]
    exact dlt_irr x⟩
  | y :: ys, x => by
    have e : minD x (y :: ys) = minD (if PySem.W.dataLt y x = true then y else x) ys := rfl
    rw [e]
    by_cases c : PySem.W.dataLt y x = true
    · rw [if_pos c]
      obtain ⟨h1, h2⟩ := min_is ys y
      refine ⟨List.mem_cons_of_mem _ h1, fun z hz => ?_⟩
      rcases List.mem_cons.mp hz with q | q
      · rw [q]
        exact dlt_le (h2 y (List.mem_cons_self ..)) (dlt_asym c)
      · exact h2 z q
    · rw [if_neg c]
      obtain ⟨h1, h2⟩ := min_is ys x
      refine ⟨?_, fun z hz => ?_⟩
      · rcases List.mem_cons.mp h1 with q | q
        · rw [q]; exact List.mem_cons_self ..
        · exact List.mem_cons_of_mem _ (List.mem_cons_of_mem _ q)
      rcases List.mem_cons.mp hz with q | q
      · rw [q]; exact h2 x (List.mem_cons_self ..)
      · rcases List.mem_cons.mp q with q | q
        · rw [q]
          exact dlt_le (h2 x (List.mem_cons_self ..)) (Bool.eq_false_iff.mpr c)
        · exact h2 z (List.mem_cons_of_mem _ q)
def rBestD (G : PyData → PyData → Bool) (K : PySem.W.Frag) : List V → Hp → VK → Prop := fun vs H Q => ∃ (a : Addr) (xs : List V) (ds : List PyData), vs = [V.ref a] ∧ SqL K H a xs ∧ DpAll K H xs ds ∧ 0 < ds.length ∧ (∀ x ∈ ds, ∀ y ∈ ds, PySem.W.alike x y = true) ∧ (∀ x ∈ ds, x ≠ .none) ∧ PyData.depthAll ds ≤ 60 ∧
  ∀ (i : Nat) (x : V) (d : PyData), xs[i]? = some x → ds[i]? = some d → (∀ e ∈ ds, G d e = false) → Q x H
abbrev rMaxD := rBestD fun d e => PySem.W.dataLt d e
abbrev rMinD := rBestD fun d e => PySem.W.dataLt e d
theorem reads_one {h : Heap} {d d' : PyData} {v : Value} {as as' : List Addr} (r : Reads h v d as) (r' : Reads h v d' as') (a : PySem.W.alike d d' = true) : d = d' := PySem.W.alike_unique d d' v as as' a r r'
theorem cr_maxD (K : PySem.W.Frag) {X : Cx} (hc : X.calm = true) (hu : X.A.units + 64 < cLine) (hK : X.K = K := by rfl) : CallR X (.builtin "max") (rMaxD K) := by
  subst hK
  intro pins s σ H vs us Q I r h
  obtain ⟨a, xs, ds, rfl, hs, hd, h0, hal, hn, hdep, q⟩ := h
  obtain ⟨its, rv, hl, hz⟩ := I.list hs
  obtain ⟨u, rfl, ru⟩ := vals1 r
  obtain rfl : u = Value.ref a := ru
  obtain ⟨as, hr⟩ := Dp.readsAll I _ xs its hd rv
  cases ds with
  | nil => cases h0
  | cons d ds =>
    refine max_list_data (x := d) (xs := ds) (I.ok.hd hc) hl.isList (by simpa using hr) ⟨hal, hn⟩ (by omega) fun i v h' tk bs hv rd hk => ?_
    have hv2 : its[i]? = some v := by simpa using hv
    have hi : i < its.length := (List.getElem?_eq_some_iff.mp hv2).1
    have le := (rdAll hr).1
    have hi2 : i < xs.length := by rw [rv.length]; exact hi
    obtain ⟨w, hw, rw1⟩ := rv.get (List.getElem?_eq_getElem hi2)
    have ew : w = v := Option.some.inj (hw.symm.trans hv2)
    subst ew
    have hi3 : i < (d :: ds).length := by omega
    obtain ⟨as2, r2⟩ := (rdAll hr).2 i w _ hv2 (List.getElem?_eq_getElem hi3)
    obtain ⟨m1, m2⟩ := max_is ds d
    have e := reads_one (Reads.keeps hk r2) rd (hal _ (List.getElem_mem hi3) _ m1)
    refine ⟨xs[i], H, I.kept hk, rw1, q i _ _ (List.getElem?_eq_getElem hi2) (List.getElem?_eq_getElem hi3) ?_⟩
    rw [e]
    exact m2
theorem cr_minD (K : PySem.W.Frag) {X : Cx} (hc : X.calm = true) (hu : X.A.units + 64 < cLine) (hK : X.K = K := by rfl) : CallR X (.builtin "min") (rMinD K) := by
  subst hK
  intro pins s σ H vs us Q I r h
  obtain ⟨a, xs, ds, rfl, hs, hd, h0, hal, hn, hdep, q⟩ := h
  obtain ⟨its, rv, hl, hz⟩ := I.list hs
  obtain ⟨u, rfl, ru⟩ := vals1 r
  obtain rfl : u = Value.ref a := ru
  obtain ⟨as, hr⟩ := Dp.readsAll I _ xs its hd rv
  cases ds with
  | nil => cases h0
  | cons d ds =>
    refine min_list_data (x := d) (xs := ds) (I.ok.hd hc) hl.isList (by simpa using hr) ⟨hal, hn⟩ (by omega) fun i v h' tk bs hv rd hk => ?_
    have hv2 : its[i]? = some v := by simpa using hv
    have hi : i < its.length := (List.getElem?_eq_some_iff.mp hv2).1
    have le := (rdAll hr).1
    have hi2 : i < xs.length := by rw [rv.length]; exact hi
    obtain ⟨w, hw, rw1⟩ := rv.get (List.getElem?_eq_getElem hi2)
    have ew : w = v := Option.some.inj (hw.symm.trans hv2)
    subst ew
    have hi3 : i < (d :: ds).length := by omega
    obtain ⟨as2, r2⟩ := (rdAll hr).2 i w _ hv2 (List.getElem?_eq_getElem hi3)
    obtain ⟨m1, m2⟩ := min_is ds d
    have e := reads_one (Reads.keeps hk r2) rd (hal _ (List.getElem_mem hi3) _ m1)
    refine ⟨xs[i], H, I.kept hk, rw1, q i _ _ (List.getElem?_eq_getElem hi2) (List.getElem?_eq_getElem hi3) ?_⟩
    rw [e]
    exact m2
def rdBestD (G : PyData → PyData → Bool) : List PyData → (PyData → Prop) → Prop := fun ds K => ∃ xs, ds = [.list xs] ∧ 0 < xs.length ∧ (∀ x ∈ xs, ∀ y ∈ xs, PySem.W.alike x y = true) ∧ (∀ x ∈ xs, x ≠ .none) ∧ PyData.depthAll xs ≤ 60 ∧ ∀ (i : Nat) d, xs[i]? = some d → (∀ e ∈ xs, G d e = false) → K d
theorem sc_bestD {K : PySem.W.Frag} {G : PyData → PyData → Bool} : SC (rBestD G K) (rdBestD G) := ⟨fun hB hA ⟨xs, e, h0, h1, h2, h3, k⟩ q => by
  subst e
  cases hA with
  | cons g1 g2 =>
    cases g2
    obtain ⟨a, vs, rfl, _, ha, hC⟩ := g1.lst2
    refine ⟨a, vs, xs, rfl, SqL.of ha, hC.dP, h0, h1, h2, h3, fun i x d ex ed hg => ?_⟩
    exact q _ _ _ (k i d ed hg) (Same.refl _) (hC.two ex ed)⟩
end Z

set_option Elab.async false
set_option linter.all false
set_option maxRecDepth 100000
set_option maxHeartbeats 400000
namespace Z
open PySem PySem.Spec PyProof.Rows L2
variable [TabCtx]
/-! ### dicts of one's own that change -/
open Classical in
noncomputable def dPut (kvs : List (PyData × PyData)) (d x : PyData) : List (PyData × PyData) := if (kvs.any fun p => decide (p.1 = d)) = true then kvs.map (fun p => if p.1 = d then (p.1, x) else p) else kvs ++ [(d, x)]
section
variable {κ : Type} [DecidableEq κ] {φ : κ → PyData}
theorem any_keys (inj : ∀ {a b : κ}, φ a = φ b → a = b) {k : κ} : ∀ {kv : List (κ × V)} {kvs : List (PyData × PyData)}, kvs.map (·.1) = kv.map (fun p => φ p.1) → ((open Classical in kvs.any fun p => decide (p.1 = φ k)) = kv.any fun p => decide (p.1 = k))
  | [], [], _ => rfl
  | p :: kv, q :: kvs, h => by
    rw [List.map_cons, List.map_cons] at h
    injection h with e1 e2
    rw [List.any_cons, List.any_cons, any_keys inj e2, e1]
    congr 1
    by_cases c : p.1 = k
    · simp [c]
    · have : ¬ φ p.1 = φ k := fun z => c (inj z)
      simp [c, this]
  | [], _ :: _, h => by cases h
  | _ :: _, [], h => by cases h
theorem dput_keys (inj : ∀ {a b : κ}, φ a = φ b → a = b) {k : κ} {v : V} {x : PyData} {B : List Addr} {H : Hp} (hv : Dt B H v x) : ∀ {kv : List (κ × V)} {kvs : List (PyData × PyData)}, kvs.map (·.1) = kv.map (fun p => φ p.1) → DtA B H (kv.map (·.2)) (kvs.map (·.2)) →
    (open Classical in kvs.map (fun p => if p.1 = φ k then (p.1, x) else p)).map (·.1) = (kv.map fun p => if p.1 = k then (p.1, v) else p).map (fun p => φ p.1) ∧ DtA B H ((kv.map fun p => if p.1 = k then (p.1, v) else p).map (·.2)) ((open Classical in kvs.map (fun p => if p.1 = φ k then (p.1, x) else p)).map (·.2))
  | [], [], _, _ => ⟨rfl, .nil⟩
  | p :: kv, q :: kvs, h, hA => by
    rw [List.map_cons, List.map_cons] at h hA
    injection h with e1 e2
    cases hA with
    | cons h1 h2 =>
      obtain ⟨i1, i2⟩ := dput_keys inj hv e2 h2
      simp only [List.map_cons]
      by_cases c : p.1 = k
      · have c2 : q.1 = φ k := by rw [e1, c]
        rw [if_pos c, if_pos c2]
        exact ⟨by rw [i1, e1], .cons hv i2⟩
      · have c2 : ¬ q.1 = φ k := fun z => c (inj (e1 ▸ z))
        rw [if_neg c, if_neg c2]
        exact ⟨by rw [i1, e1], .cons h1 i2⟩
  | [], _ :: _, h, _ => by cases h
  | _ :: _, [], h, _ => by cases h
theorem put_all (inj : ∀ {a b : κ}, φ a = φ b → a = b) {k : κ} {v : V} {x : PyData} {B : List Addr} {H : Hp} (hv : Dt B H v x) {kv : List (κ × V)} {kvs : List (PyData × PyData)} (h : kvs.map (·.1) = kv.map (fun p => φ p.1)) (hA : DtA B H (kv.map (·.2)) (kvs.map (·.2))) :
    (dPut kvs (φ k) x).map (·.1) = (putK kv k v).map (fun p => φ p.1) ∧ DtA B H ((putK kv k v).map (·.2)) ((dPut kvs (φ k) x).map (·.2)) := by
  unfold dPut putK
  rw [any_keys inj h]
  by_cases c : (kv.any fun p => decide (p.1 = k)) = true
  · rw [if_pos c, if_pos c]
    exact dput_keys inj hv h hA
  · rw [if_neg c, if_neg c]
    simp only [List.map_append, List.map_cons, List.map_nil]
    exact ⟨by rw [h], hA.app (.one hv)⟩
end
/-- a key of this kind -/
def KeyOf : Bool → PyData → Prop
  | true, d => ∃ ks, d = tD ks
  | false, d => ∃ k, d = kD k
theorem DicAt.put {B : List Addr} {H : Hp} {a : Addr} {tp : Bool} {kvs : List (PyData × PyData)} {y v : V} {d x : PyData} (h : DicAt B H a tp kvs) (dy : Dt B H y d) (hk : KeyOf tp d) (dv : Dt B H v x) (hl : kvs.length < sizeLine) (ha : a ∈ B) :
    ∃ o, NoTup o ∧ DPut H a y v (upd H a o) ∧ DicAt B (upd H a o) a tp (dPut kvs d x) ∧ ∃ u, H a = some u ∧ notTab u := by
  have g : ∀ o, NoTup o → Go B H (upd H a o) := fun o ho => by
    obtain ⟨u, e, n, _⟩ := h.at_
    exact Go.refl.at ha ⟨u, e, n⟩ ho
  obtain ⟨u, eu, nu, _⟩ := h.at_
  cases tp with
  | true =>
    obtain ⟨kv, h1, h2, h3⟩ := h
    obtain ⟨ks, rfl⟩ := hk
    obtain ⟨b, rfl, hb⟩ := tD_dt dy
    have ll : kv.length < sizeLine := by
      have := congrArg List.length h2
      rw [List.length_map, List.length_map] at this
      omega
    obtain ⟨p1, p2⟩ := put_all (φ := tD) (k := ks) tD_inj dv h2 h3
    exact ⟨_, (fun _ z => by cases z), DPut.t h1 hb ll, ⟨_, upd_same, p1, p2.g (g _ fun _ z => by cases z)⟩, u, eu, nu⟩
  | false =>
    obtain ⟨kv, h1, h2, h3⟩ := h
    obtain ⟨k, rfl⟩ := hk
    have ey := kD_dt dy
    subst ey
    have ll : kv.length < sizeLine := by
      have := congrArg List.length h2
      rw [List.length_map, List.length_map] at this
      omega
    obtain ⟨p1, p2⟩ := put_all (φ := kD) (k := k) kD_inj dv h2 h3
    exact ⟨_, (fun _ z => by cases z), DPut.k h1 ll, ⟨_, upd_same, p1, p2.g (g _ fun _ z => by cases z)⟩, u, eu, nu⟩
/-- what is in a dict of one's own changes -/
theorem Rel.mutK {L B O : List Addr} {H : Hp} {σ : L2.St} {δ : List Sl} {n : Nat} {a : Addr} {o : HO} {tp tq : Bool} {xs ys : List (PyData × PyData)} (h : Rel L B O H σ δ n) {i : Nat} (e : δ[i]? = some (.k tp xs)) (ea : σ[i]? = some (some (.ref a))) (hd : DicAt B (upd H a o) a tq ys) (ho : NoTup o) : Rel L B O (upd H a o) σ (δ.set i (.k tq ys)) n := by
  obtain ⟨b, e1, hb, hs⟩ := h.kk i tp xs e
  rw [ea] at e1
  cases e1
  obtain ⟨u, eu, nu, nl, _⟩ := hs.at_
  have g : Go B H (upd H a o) := Go.refl.at (h.ob a hb).1 ⟨u, eu, nu⟩ ho
  have li : i < δ.length := (List.getElem?_eq_some_iff.mp e).1
  exact {
    len := by rw [List.length_set]; exact h.len
    dd := fun j x ej => by
      rcases getset ej with ⟨_, z, _⟩ | ⟨z, ej⟩
      · cases z
      · obtain ⟨v, e1, dv⟩ := h.dd j x ej
        exact ⟨v, e1, dv.g g⟩
    oo := fun j zs ej => by
      rcases getset ej with ⟨_, z, _⟩ | ⟨z, ej⟩
      · cases z
      · obtain ⟨c, us, e1, hc, hsc, hC⟩ := h.oo j zs ej
        refine ⟨c, us, e1, hc, ?_, hC.g g⟩
        rw [upd_ne (fun q => by rw [q, eu] at hsc; cases hsc; exact nl _ rfl)]
        exact hsc
    uq := fun j k zs ts c pj pk f1 f2 => by
      rcases getset pj with ⟨_, z, _⟩ | ⟨z1, ej⟩
      · cases z
      rcases getset pk with ⟨_, z, _⟩ | ⟨z2, ek⟩
      · cases z
      exact h.uq _ _ _ _ c ej ek f1 f2
    kk := fun j tr ks ej => by
      rcases getset ej with ⟨rfl, z, _⟩ | ⟨z, ej⟩
      · cases z
        exact ⟨a, ea, hb, hd⟩
      · obtain ⟨c, e1, hc, hd'⟩ := h.kk j tr ks ej
        refine ⟨c, e1, hc, hd'.to (upd_ne fun q => z (h.uk j i _ _ _ _ a ej e (by rw [← q]; exact e1) ea)) fun _ _ hA => hA.g g⟩
    uk := fun j k t t' zs ts c pj pk f1 f2 => by
      rcases getset pj with ⟨rfl, _, l1⟩ | ⟨z1, ej⟩
      · rcases getset pk with ⟨rfl, _, l⟩ | ⟨z2, ek⟩
        · rfl
        · exact h.uk _ _ _ _ _ _ c e ek f1 f2
      · rcases getset pk with ⟨rfl, _, l⟩ | ⟨z2, ek⟩
        · exact h.uk _ _ _ _ _ _ c ej e f1 f2
        · exact h.uk _ _ _ _ _ _ c ej ek f1 f2
    ll := fun j ej => by
      rcases getset ej with ⟨_, z, _⟩ | ⟨z, ej⟩
      · cases z
      · exact h.ll j ej
    vv := fun j u ej => by
      rcases getset ej with ⟨_, z, _⟩ | ⟨z, ej⟩
      · cases z
      · exact h.vv j u ej
    bk := h.bk.go g
    ob := h.ob
    lb := h.lb
    lf := h.lf.upL (h.ob a hb).2 ⟨u, eu, nu⟩ ho }
def fNewK (tp : Bool) : DKs := fun _ n K => K tp [] n
theorem sk_newT : SK tDNewT (fNewK true) := ⟨fun {L B O H σ δ n Q K} r k q p hp => q true [] n p _ k (Go.new hp) (r.lf.new hp) hp ⟨[], upd_same, rfl, .nil⟩⟩
theorem sk_newK : SK tDNewK (fNewK false) := ⟨fun {L B O H σ δ n Q K} r k q p hp => q false [] n p _ k (Go.new hp) (r.lf.new hp) hp ⟨[], upd_same, rfl, .nil⟩⟩
section
variable {te ti : TE} {fe fz : DE} {K : PySem.W.Frag}
/-- d[k] = x -/
def fSetK (i : Nat) (fe fz : DE) : DS := fun E δ n => ∃ tp kvs, δ[i]? = some (.k tp kvs) ∧ kvs.length ≤ 100000 ∧ fe δ n fun x m => fz δ m fun d k => KeyOf tp d ∧ E.nx (δ.set i (.k tp (dPut kvs d x))) k
theorem ss_setK {i : Nat} (h : SE te fe) (hi : SE ti fz) : SS (tAsg te (gSub (tVar i) ti rSetD)) (fSetK i fe fz) := ⟨fun at' ⟨tp, kvs, ei, lk, k⟩ e => by
  obtain ⟨a, ea, ha, hd⟩ := at'.rel.kk i tp kvs ei
  refine h.run at'.rel k fun x m v H' k2 g l dv => ⟨_, ea, ?_⟩
  have a2 := at'.go g l
  refine hi.run a2.rel k2 fun d m2 y H2 ⟨hk, k3⟩ g2 l2 dy => ?_
  have a3 := a2.go g2 l2
  have hB := (at'.rel.ob a ha).1
  have g12 := g.trans g2
  have hd3 := hd.to (hd.kg g12 (at'.rel.ob a ha).2) fun _ _ hA => hA.g (g12.w at'.rel.lb)
  obtain ⟨o, no, hp, hd4, u, eu, nu⟩ := hd3.put dy hk (dv.g (g2.w at'.rel.lb)) (sz lk) hB
  refine ⟨a, _, rfl, hp, e.nx k3 ⟨a3.fo, a3.sb, a3.fo.go (fun b hb => (a3.rel.ob b hb).1) a3.fr (Go.refl.at (List.mem_append_right _ ha) ⟨u, eu, nu⟩ no), a3.rel.mutK ei ea hd4 no⟩⟩⟩
/-- sorted(d.items()), the keys tuples of ints, the values ints -/
def itD (r : Rw) : PyData × PyData := (eC r.1, .int r.2)
def fSortIt (i : Nat) : DI := fun δ n K => ∃ ps : List Rw, δ[i]? = some (.k true (ps.map itD)) ∧ ps.length ≤ 1000 ∧ K ((ps.mergeSort (PySem.W.dataLe false rowD)).map rowD) n
theorem ent_of : ∀ {ps : List Rw} {B : List Addr} {H : Hp} {kv : List (List Key × V)}, (ps.map itD).map (·.1) = kv.map (fun p => tD p.1) → DtA B H (kv.map (·.2)) ((ps.map itD).map (·.2)) → kv = ps.map entI
  | [], _, _, [], _, _ => rfl
  | p :: ps, _, _, q :: kv, h, hA => by
    simp only [List.map_cons] at h hA
    injection h with e1 e2
    cases hA with
    | cons h1 h2 =>
      rw [List.map_cons, ← ent_of e2 h2]
      have e1' : eC p.1 = tD q.1 := e1
      rw [eC_tD] at e1'
      have k1 := tD_inj e1'
      have k2 : q.2 = .int p.2 := Dt.intI h1
      show q :: kv = entI p :: kv
      unfold entI
      rw [k1, ← k2]
  | [], _, _, _ :: _, h, _ => by cases h
  | _ :: _, _, _, [], h, _ => by cases h
theorem sn_sortIt {i : Nat} : SN (tCB rSortII (tCons (tBM0 K "dict" L2.DX.rItemsT (tVar i)) tNil)) (fSortIt i) := ⟨fun {L B O H σ δ n Q K'} r ⟨ps, ei, lp, k⟩ q => by
  obtain ⟨a, ea, ha, kv, h1, h2, h3⟩ := r.kk i true _ ei
  have ek := ent_of h2 h3
  subst ek
  refine ⟨_, ea, .inr (.inr (.inl ⟨rfl, .inr ⟨_, h1⟩⟩)), a, _, rfl, rfl, h1, fun p hp => ?_⟩
  have s3 := sm_new (o := L2.DX.itemsO p a) hp
  refine ⟨p, a, ps, rfl, upd_same, s3 _ _ h1, lp, fun H4 l zs s4 hl ⟨pm, es⟩ el hz => ?_⟩
  have s34 : Same H H4 := s3.trans s4
  have hl0 : H l = none := (Go.of (B := []) s3).free hl
  have b3 : Bk B (upd H p (L2.DX.itemsO p a)) := r.bk.go (Go.of (B := B) s3)
  have hA : ∀ ys : List (Addr × List Int × Int), (∀ z ∈ ys, z ∈ zs) → DtA (l :: B) H4 (ys.map fun z => V.ref z.1) ((ys.map (·.2)).map rowD) := by
    intro ys
    induction ys with
    | nil => exact fun _ => .nil
    | cons z ys ih =>
      intro h
      obtain ⟨qa, f1, f2, f3⟩ := hz z (h z (List.mem_cons_self ..))
      have nq : qa ∉ l :: B := fun m => by
        rcases List.mem_cons.mp m with w | w
        · rw [w, hl] at f3; cases f3
        · exact (b3 qa w).2 _ f3
      have nz : z.1 ∉ l :: B := fun m => by
        rcases List.mem_cons.mp m with w | w
        · rw [w, el] at f2; cases f2
        · exact (b3 _ w).1 f1
      exact .cons (.tup nz f2 (.cons (Dt.ofCol nq (s4 _ _ f3)) (.cons (.int _) .nil))) (ih fun x hx => h x (List.mem_cons_of_mem _ hx))
  have hAll := hA zs fun z hz => hz
  rw [es] at hAll
  exact q _ n l _ H4 k (Go.of s34) (r.lf.same s34) hl0 el hAll⟩
end
end Z

set_option Elab.async false
set_option linter.all false
set_option maxRecDepth 100000
namespace Z
open PySem PySem.Spec PyProof.Rows L2
variable [TabCtx]
/-! ### a loop of the machine over a list -/
theorem wpAny_forIn_list {M : Model} {A : Around} {E : Value → Shared → Prop} {α β : Type} {f : α → β → Sem (ForInStep β)} {Q : β → Shared → Prop} (I : List α → β → Shared → Prop)
    (hs : ∀ x xs b s, I (x :: xs) b s → wpAny M A (f x b) (fun r s' => match r with | .yield b' => I xs b' s' | .done b' => Q b' s') E s) (hd : ∀ b s, I [] b s → Q b s) :
    ∀ (l : List α) (b : β) (s : Shared), I l b s → wpAny M A (forIn l b f) Q E s
  | [], b, s, h => by
    rw [List.forIn_nil]
    exact wpAny_pure (hd b s h)
  | x :: xs, b, s, h => by
    rw [List.forIn_cons]
    refine wpAny_bind (wpAny_mono (hs x xs b s h) (fun r s' h' => ?_) fun _ _ z => z)
    cases r with
    | done b' => exact wpAny_pure h'
    | yield b' => exact wpAny_forIn_list I hs hd xs b' s' h'
/-! ### iterators of tuples, one behind another -/
def itO (a : Addr) : Obj := { cls := .type "tuple_iterator", data := .fields #[.ref a, .int 0 0] }
def pushIts (h : Heap) : List Addr → Heap
  | [] => h
  | a :: as => pushIts (h.push (itO a)) as
theorem pushIts_size : ∀ (as : List Addr) (h : Heap), (pushIts h as).objs.size = h.objs.size + as.length
  | [], h => rfl
  | a :: as, h => by
    rw [pushIts, pushIts_size as, Heap.size_push, List.length_cons]
    omega
theorem pushIts_old : ∀ (as : List Addr) (h : Heap) {c : Addr} {o : Obj}, h.get? c = some o → (pushIts h as).get? c = some o
  | [], h, c, o, e => e
  | a :: as, h, c, o, e => pushIts_old as _ (Heap.get?_push_of_some _ e)
theorem pushIts_new : ∀ (as : List Addr) (h : Heap) (j : Nat) (a : Addr), as[j]? = some a → (pushIts h as).get? (h.objs.size + j) = some (itO a)
  | [], h, j, a, e => by simp at e
  | b :: as, h, 0, a, e => by
    cases e
    exact pushIts_old as _ (Heap.get?_push_size _ rfl)
  | b :: as, h, j + 1, a, e => by
    have := pushIts_new as (h.push (itO b)) j a (by simpa using e)
    rw [Heap.size_push] at this
    rw [pushIts, show h.objs.size + (j + 1) = h.objs.size + 1 + j by omega]
    exact this
def refsFrom (N : Nat) (n : Nat) : List Value := (List.range n).map fun j => Value.ref (N + j)
theorem wpAny_iterAll {prog : Program} {w : World} {A : Around} {E : Value → Shared → Prop} {s : Shared} {Q : List Value → Shared → Prop} {as : List Addr} (h : ∀ a ∈ as, ∃ items, s.heap.IsTuple a items)
    (hQ : Q (refsFrom s.heap.objs.size as.length) { s with heap := pushIts s.heap as }) : wpAny (model prog w) A (Builtin.SmallTypes.iterAll (as.map Value.ref)) Q E s := by
  unfold Builtin.SmallTypes.iterAll
  obtain ⟨hp, g, d, tk, os⟩ := s
  refine wpAny_bind (wpAny_forIn_list (fun l b s' => ∃ k, l = (as.drop k).map Value.ref ∧ k ≤ as.length ∧ b = (refsFrom hp.objs.size k).toArray ∧ s' = ⟨pushIts hp (as.take k), g, d, tk, os⟩) (fun x xs b s' hI => ?_) (fun b s' hI => ?_) _ _ _ ⟨0, rfl, Nat.zero_le _, rfl, rfl⟩)
  · obtain ⟨k, el, hk, rfl, rfl⟩ := hI
    have hk2 : k < as.length := by
      rcases Nat.lt_or_ge k as.length with z | z
      · exact z
      · rw [List.drop_eq_nil_of_le z] at el
        cases el
    rw [List.drop_eq_getElem_cons hk2, List.map_cons] at el
    obtain ⟨rfl, rfl⟩ := List.cons.inj el
    obtain ⟨items, ht⟩ := h _ (List.getElem_mem hk2)
    refine wpAny_bind (wpAny_holding (wpAny_pyIter_tuple (items := items) (ht.at fun o e => pushIts_old _ _ e) (wpAny_pure ?_)))
    refine ⟨k + 1, rfl, hk2, ?_, ?_⟩
    · unfold refsFrom
      rw [List.range_succ, List.map_append, List.push_toArray, pushIts_size, List.length_take, Nat.min_eq_left hk]
      rfl
    · have e : ∀ (xs ys : List Addr) (h : Heap), pushIts h (xs ++ ys) = pushIts (pushIts h xs) ys := by
        intro xs
        induction xs with
        | nil => intro ys h; rfl
        | cons x xs ih => intro ys h; exact ih ys _
      rw [List.take_add_one, List.getElem?_eq_getElem hk2, Option.toList_some, e]
      rfl
  · obtain ⟨k, el, hk, rfl, rfl⟩ := hI
    have hk2 : k = as.length := by
      rcases Nat.lt_or_ge k as.length with z | z
      · rw [List.drop_eq_getElem_cons z, List.map_cons] at el
        cases el
      · omega
    subst hk2
    rw [List.take_length]
    exact wpAny_pure hQ
/-! ### zip of so many -/
theorem typeCall_zipN (as : List Value) : checkTypeCall "zip" ⟨as, []⟩ = pure () := by kernel_rfl
theorem newCall_zipN (a : Value) (as : List Value) : checkBuiltinCall "zip.__new__" ⟨.type "zip" :: a :: as, []⟩ = pure () := by kernel_rfl
theorem args_initN (o a : Value) (as : List Value) : argsOk "object.__init__" ⟨o :: a :: as, []⟩ := by
  unfold argsOk; rw [signature?_of (id := "object.__init__") (n := ['_', '_', 't', 'i', 'n', 'i', '_', '_']) (o := ['t', 'c', 'e', 'j', 'b', 'o']) (by kernel_rfl) F.owner_object]; kernel_rfl
def tupO (vs : List Value) : Obj := { cls := .type "tuple", data := .seq vs.toArray }
def zipT (h : Heap) (as : List Addr) : Heap := (pushIts h as).push (tupO (refsFrom h.objs.size as.length))
def zipO (h : Heap) (as : List Addr) : Heap := (zipT h as).push (tupO (List.replicate as.length .none))
def zipZ (h : Heap) (as : List Addr) : Heap := (zipO h as).push { cls := .type "zip", data := .fields #[.none, .bool false, .bool false, .ref (pushIts h as).objs.size, .ref (zipT h as).objs.size] }
theorem refs_none (N n : Nat) : (refsFrom N n).map (fun _ => Value.none) = List.replicate n .none := by
  unfold refsFrom
  rw [List.map_map]
  apply List.ext_getElem
  · simp
  · intro i h1 h2
    simp
theorem meets_zip_newN (as : List Addr) (hz : as.length ≤ sizeLine) : Meets (Builtin.«zip.__new__» ⟨.type "zip" :: as.map Value.ref, []⟩) (fun _ R s => (∀ a ∈ as, ∃ items, s.heap.IsTuple a items) ∧
    R (.ok (.ret (.ref (zipO s.heap as).objs.size))) { s with heap := zipZ s.heap as }) :=
  .of_wp fun prog w A R s h => by
    obtain ⟨hp, g, d, tk, os⟩ := s
    obtain ⟨h1, h⟩ := h
    have hsub := sub_zip
    have qi : ∀ {A' : Around} {E : Value → Shared → Prop} {Q : List Value → Shared → Prop}, Q (refsFrom hp.objs.size as.length) ⟨pushIts hp as, g, d, tk, os⟩ → wpAny (model prog w) A' (Builtin.SmallTypes.iterAll (as.map Value.ref)) Q E ⟨hp, g, d, tk, os⟩ :=
      fun q => wpAny_iterAll (s := ⟨hp, g, d, tk, os⟩) h1 q
    have l1 : (refsFrom hp.objs.size as.length).length ≤ sizeLine := by unfold refsFrom; rw [List.length_map, List.length_range]; exact hz
    have l2 : (List.replicate as.length Value.none).length ≤ sizeLine := by rw [List.length_replicate]; exact hz
    have qt : ∀ {A' : Around} {E : Value → Shared → Prop} {Q : Value → Shared → Prop}, Q (.ref (pushIts hp as).objs.size) ⟨zipT hp as, g, d, tk, os⟩ → wpAny (model prog w) A' (newTuple (refsFrom hp.objs.size as.length)) Q E ⟨pushIts hp as, g, d, tk, os⟩ :=
      fun q => wpAny_newTuple q (by simpa using l1)
    have qo : ∀ {A' : Around} {E : Value → Shared → Prop} {Q : Value → Shared → Prop}, Q (.ref (zipT hp as).objs.size) ⟨zipO hp as, g, d, tk, os⟩ → wpAny (model prog w) A' (newTuple ((refsFrom hp.objs.size as.length).map fun _ => Value.none)) Q E ⟨zipT hp as, g, d, tk, os⟩ :=
      fun q => by
        rw [refs_none]
        exact wpAny_newTuple q (by simpa using l2)
    wp_walk using qi, qt, qo
    exact ⟨_, rfl, h⟩
/-! ### the zip's state, and its next -/
def ZipIs (h : Heap) (z TI TO : Addr) (f0 f1 : Value) : Prop := h.get? z = some { cls := .type "zip", dict := none, data := .fields #[f0, f1, .bool false, .ref TI, .ref TO], slots := #[] }
/-- outside of the cells of a zip of n -/
def Out (N n : Nat) (c : Addr) : Prop := c < N ∨ N + n + 2 < c
theorem Out.ne {N n k : Nat} {c : Addr} (h : Out N n c) (hk : k ≤ n + 2) : c ≠ N + k := by
  rcases h with z | z
  · exact Nat.ne_of_lt (Nat.lt_of_lt_of_le z (Nat.le_add_right _ _))
  · exact Nat.ne_of_gt (Nat.lt_of_le_of_lt (by omega) z)
theorem Out.nz {N n : Nat} {c : Addr} (h : Out N n c) : c ≠ N + n + 2 := h.ne (k := n + 2) (Nat.le_refl _)
theorem Out.no {N n : Nat} {c : Addr} (h : Out N n c) : c ≠ N + n + 1 := h.ne (k := n + 1) (by omega)
structure ZAll (N : Nat) (as : List Addr) (pos : Nat → Nat) (vs : List Value) (f0 f1 : Value) (h : Heap) : Prop where
  z : ZipIs h (N + as.length + 2) (N + as.length) (N + as.length + 1) f0 f1
  ti : h.get? (N + as.length) = some (tupO (refsFrom N as.length))
  lv : vs.length = as.length
  to : h.get? (N + as.length + 1) = some (tupO vs)
  it : ∀ j a, as[j]? = some a → h.IsTupleIter (N + j) a (pos j)
theorem at_len {α : Type} {as : List α} {j : Nat} {a : α} (h : as[j]? = some a) : j < as.length := (List.getElem?_eq_some_iff.mp h).1
/-- a write at the zip itself -/
theorem ZAll.atZ {N : Nat} {as : List Addr} {pos : Nat → Nat} {vs : List Value} {f0 f1 g0 g1 : Value} {h h' : Heap} (Z : ZAll N as pos vs f0 f1 h) (e : ZipIs h' (N + as.length + 2) (N + as.length) (N + as.length + 1) g0 g1) (s : Heap.SameBut (N + as.length + 2) h h') : ZAll N as pos vs g0 g1 h' where
  z := e
  ti := (s.2 _ (Nat.ne_of_lt (by omega))).trans Z.ti
  lv := Z.lv
  to := (s.2 _ (Nat.ne_of_lt (by omega))).trans Z.to
  it := fun j a ha => by
    have := at_len ha
    exact (Z.it j a ha).at fun o q => (s.2 _ (Nat.ne_of_lt (by omega))).trans q
/-- one iterator has gone on -/
theorem ZAll.atI {N : Nat} {as : List Addr} {pos : Nat → Nat} {vs : List Value} {f0 f1 : Value} {h h' : Heap} {k : Nat} {a : Addr} {i : Nat} (Z : ZAll N as pos vs f0 f1 h) (ha : as[k]? = some a) (e : h'.IsTupleIter (N + k) a i) (s : Heap.SameBut (N + k) h h') : ZAll N as (fun j => if j = k then i else pos j) vs f0 f1 h' := by
  have hk := at_len ha
  refine ⟨(s.2 _ (Nat.ne_of_gt (by omega))).trans Z.z, (s.2 _ (Nat.ne_of_gt (by omega))).trans Z.ti, Z.lv, (s.2 _ (Nat.ne_of_gt (by omega))).trans Z.to, fun j b hb => ?_⟩
  by_cases q : j = k
  · subst q
    have eb : a = b := Option.some.inj (ha.symm.trans hb)
    subst eb
    rw [if_pos rfl]
    exact e
  · rw [if_neg q]
    exact (Z.it j b hb).at fun o z => (s.2 _ (fun y => q (Nat.add_left_cancel y))).trans z
/-- the kept tuple's items are others -/
theorem ZAll.atO {N : Nat} {as : List Addr} {pos : Nat → Nat} {vs ws : List Value} {f0 f1 : Value} {h h' : Heap} (Z : ZAll N as pos vs f0 f1 h) (lw : ws.length = as.length) (e : h'.get? (N + as.length + 1) = some (tupO ws)) (s : Heap.SameBut (N + as.length + 1) h h') : ZAll N as pos ws f0 f1 h' where
  z := (s.2 _ (Nat.ne_of_gt (by omega))).trans Z.z
  ti := (s.2 _ (Nat.ne_of_lt (by omega))).trans Z.ti
  lv := lw
  to := e
  it := fun j a ha => by
    have := at_len ha
    exact (Z.it j a ha).at fun o q => (s.2 _ (Nat.ne_of_lt (by omega))).trans q
theorem ZAll.pos {N : Nat} {as : List Addr} {p q : Nat → Nat} {vs : List Value} {f0 f1 : Value} {h : Heap} (Z : ZAll N as p vs f0 f1 h) (e : ∀ j, j < as.length → p j = q j) : ZAll N as q vs f0 f1 h := ⟨Z.z, Z.ti, Z.lv, Z.to, fun j a ha => by
  rw [← e j (at_len ha)]
  exact Z.it j a ha⟩
theorem ZAll.keep {N : Nat} {as : List Addr} {p : Nat → Nat} {vs : List Value} {f0 f1 : Value} {h h' : Heap} (Z : ZAll N as p vs f0 f1 h) (k : ∀ c o, N ≤ c → c ≤ N + as.length + 2 → h.get? c = some o → h'.get? c = some o) : ZAll N as p vs f0 f1 h' where
  z := k _ _ (by omega) (by omega) Z.z
  ti := k _ _ (by omega) (by omega) Z.ti
  lv := Z.lv
  to := k _ _ (by omega) (by omega) Z.to
  it := fun j a ha => by
    have := at_len ha
    exact (Z.it j a ha).at fun o q => k _ _ (by omega) (by omega) q
theorem refs_at {N n j : Nat} (h : j < n) : (refsFrom N n)[j]? = some (.ref (N + j)) := by
  unfold refsFrom
  rw [List.getElem?_map, List.getElem?_range h]
  rfl
theorem refs_len (N n : Nat) : (refsFrom N n).length = n := by
  unfold refsFrom
  rw [List.length_map, List.length_range]
theorem set_step {vs ys : List Value} {k : Nat} {y : Value} (h1 : vs.length = ys.length) (h2 : ys[k]? = some y) : (ys.take k ++ vs.drop k).set k y = ys.take (k + 1) ++ vs.drop (k + 1) := by
  have hk := at_len h2
  have l : (ys.take k).length = k := by rw [List.length_take]; omega
  rw [List.set_append_right _ _ (by omega), l, Nat.sub_self, List.drop_eq_getElem_cons (by omega), List.set_cons_zero, List.take_add_one, h2, Option.toList_some, List.append_assoc]
  rfl
section
variable {prog : Program} {w : World} {A : Around} {E : Value → Shared → Prop}
set_option maxHeartbeats 2000000 in
/-- where the tuple that was given out is free -/
theorem zipN_free {N i : Nat} {as : List Addr} {vs ys : List Value} {f0 f1 : Value} {Q : Value → Shared → Prop} {hp : Heap} {g : Array GenState} {d : _} {tk : Tok} {os : _} (Z : ZAll N as (fun _ => i) vs f0 f1 hp) (n0 : 0 < as.length) (nz : as.length ≤ sizeLine) (ly : ys.length = as.length)
    (ha : ∀ (j : Nat) (a : Addr), as[j]? = some a → a < N ∧ ∃ items : Array Value, hp.IsTuple a items ∧ items[i]? = ys[j]?)
    (hf : ∀ {A' : Around} {E' : Value → Shared → Prop} {Q' : Bool → Shared → Prop}, Q' true ⟨hp, g, d, tk, os⟩ → wpAny (model prog w) A' (Builtin.SmallTypes.ownedTupleIsFree (.ref (N + as.length + 2))) Q' E' ⟨hp, g, d, tk, os⟩)
    (hQ : ∀ h' (T : Addr), ZAll N as (fun _ => i + 1) ys (rawInt T) (.bool false) h' → h'.get? hp.objs.size = some (tupO ys) → h'.objs.size = hp.objs.size + 1 → (∀ c o, Out N as.length c → hp.get? c = some o → h'.get? c = some o) → Q (.ref hp.objs.size) ⟨h', g, d, tk, os⟩) :
    wpAny (model prog w) A (Builtin.«zip.__next__» ⟨[.ref (N + as.length + 2)], []⟩) (fun fin s' => ∃ v, fin = .done (.ret v) ∧ Q v s') E ⟨hp, g, d, tk, os⟩ := by
  show wpAny _ _ (field (.ref (N + as.length + 2)) 2 >>= _) _ _ _
  refine wpAny_bind (wpAny_field Z.z rfl (x := .bool false) rfl ?_)
  show wpAny _ _ (field (.ref (N + as.length + 2)) 3 >>= _) _ _ _
  refine wpAny_bind (wpAny_field Z.z rfl (x := .ref (N + as.length)) rfl ?_)
  refine wpAny_bind (wpAny_seqItems Z.ti rfl ?_)
  have ne : ((refsFrom N as.length).toArray).isEmpty = false := by
    rw [Array.isEmpty_eq_false_iff_exists_mem]
    exact ⟨.ref (N + 0), by rw [List.mem_toArray]; exact List.mem_of_getElem? (refs_at n0)⟩
  simp only [ne, Bool.false_eq_true, if_false]
  show wpAny _ _ (Builtin.SmallTypes.ownedTupleIsFree (.ref (N + as.length + 2)) >>= _) _ _ _
  refine wpAny_bind (hf ?_)
  simp only [if_true]
  refine wpAny_bind (wpAny_rule ?_)
  refine wpAny_bind (wpAny_field Z.z rfl (x := .ref (N + as.length + 1)) rfl ?_)
  refine wpAny_bind (wpAny_setField_rec Z.z (by simp) fun g0 hz0 hs0 => ?_)
  have Z0 : ZAll N as (fun _ => i) vs .ellipsis f1 g0 := Z.atZ hz0 hs0
  have o0 : ∀ c o, Out N as.length c → hp.get? c = some o → g0.get? c = some o := fun c o hc e => (hs0.2 c hc.nz).trans e
  have z0 : g0.objs.size = hp.objs.size := hs0.1
  refine wpAny_bind (wpAny_forIn_list (fun l b s' => ∃ (k : Nat) (h : Heap), l = ((refsFrom N as.length).zipIdx).drop k ∧ k ≤ as.length ∧ b = ⟨none, ⟨⟩⟩ ∧ s' = ⟨h, g, d, tk, os⟩ ∧ ZAll N as (fun j => if j < k then i + 1 else i) (ys.take k ++ vs.drop k) .ellipsis f1 h ∧ h.objs.size = hp.objs.size ∧ ∀ c o, Out N as.length c → hp.get? c = some o → h.get? c = some o) (fun x xs b s' hI => ?_) (fun b s' hI => ?_) _ _ _ ⟨0, g0, rfl, Nat.zero_le _, rfl, rfl, ?_, z0, o0⟩)
  · obtain ⟨k, h, el, hk, rfl, rfl, Zk, zk, ok⟩ := hI
    have lz : ((refsFrom N as.length).zipIdx).length = as.length := by rw [List.length_zipIdx, refs_len]
    have hk2 : k < as.length := by
      rcases Nat.lt_or_ge k as.length with z | z
      · exact z
      · rw [List.drop_eq_nil_of_le (by omega)] at el
        cases el
    rw [List.drop_eq_getElem_cons (by omega)] at el
    obtain ⟨rfl, rfl⟩ := List.cons.inj el
    have ex : ((refsFrom N as.length).zipIdx)[k]'(by omega) = (.ref (N + k), k) := by
      rw [List.getElem_zipIdx]
      have := refs_at (N := N) hk2
      rw [List.getElem?_eq_getElem (by rw [refs_len]; exact hk2)] at this
      rw [Option.some.inj this, Nat.zero_add]
    rw [ex]
    obtain ⟨a, ea⟩ : ∃ a, as[k]? = some a := ⟨_, List.getElem?_eq_getElem hk2⟩
    obtain ⟨aN, items, hit, hix⟩ := ha k a ea
    obtain ⟨y, ey⟩ : ∃ y, ys[k]? = some y := ⟨_, List.getElem?_eq_getElem (by omega)⟩
    have itk := Zk.it k a ea
    simp only [Nat.lt_irrefl, if_false] at itk
    refine wpAny_bind (wpAny_onRaise ?_)
    show wpAny _ _ (Builtin.SmallTypes.nextOf (.ref (N + k)) >>= _) _ _ ⟨h, g, d, tk, os⟩
    refine wpAny_bind (wpAny_nextOf_tuple_item (s := ⟨h, g, d, tk, os⟩) itk (hit.at fun o e => ok _ _ (.inl aN) e) (hix.trans ey) fun h1 it1 hs1 => wpAny_pure ?_)
    have Z1 := Zk.atI ea it1 hs1
    refine wpAny_bind (wpAny_seqItems (s := ⟨h1, g, d, tk, os⟩) Z1.to rfl ?_)
    have lt : (ys.take k ++ vs.drop k).length = as.length := Z1.lv
    refine wpAny_bind (wpAny_updateSeq (s := ⟨h1, g, d, tk, os⟩) Z1.to rfl ?_ (by rw [List.size_toArray, lt]; exact nz) (by simp only [Array.size_setIfInBounds, List.size_toArray, lt]; omega))
    refine wpAny_bind (wpAny_letGo (wpAny_pure ?_))
    have hs2 := Heap.SameBut.update h1 (N + as.length + 1) (Obj.mapSeq fun x => x.setIfInBounds k y)
    have e2 := Heap.get?_update_self (Obj.mapSeq fun x => x.setIfInBounds k y) Z1.to rfl
    have lw : (ys.take (k + 1) ++ vs.drop (k + 1)).length = as.length := by
      have := Z.lv
      rw [List.length_append, List.length_take, List.length_drop]
      omega
    have e3 : (h1.update (N + as.length + 1) (Obj.mapSeq fun x => x.setIfInBounds k y)).get? (N + as.length + 1) = some (tupO (ys.take (k + 1) ++ vs.drop (k + 1))) := by
      rw [e2]
      show some (Obj.mapSeq _ (tupO (ys.take k ++ vs.drop k))) = _
      unfold tupO Obj.mapSeq
      simp only [List.setIfInBounds_toArray]
      rw [set_step (by have := Z.lv; omega) ey]
      simp only [List.size_toArray, lw, lt, beq_self_eq_true, if_true]
    have Z2 := (Z1.atO lw e3 hs2).pos (q := fun j => if j < k + 1 then i + 1 else i) (fun j hj => by
      by_cases c1 : j = k
      · rw [if_pos c1, if_pos (by omega)]
      · rw [if_neg c1]
        by_cases c2 : j < k
        · rw [if_pos c2, if_pos (by omega)]
        · rw [if_neg c2, if_neg (by omega)])
    refine ⟨k + 1, _, rfl, hk2, rfl, rfl, Z2, ?_, fun c o hc e => ?_⟩
    · exact (hs2.1.trans hs1.1).trans zk
    · have c1 : c ≠ N + as.length + 1 := hc.no
      have c2 : c ≠ N + k := hc.ne (by omega)
      exact (hs2.2 c c1).trans ((hs1.2 c c2).trans (ok c o hc e))
  · obtain ⟨k, h, el, hk, rfl, rfl, Zk, zk, ok⟩ := hI
    have lz : ((refsFrom N as.length).zipIdx).length = as.length := by rw [List.length_zipIdx, refs_len]
    have hk2 : k = as.length := by
      rcases Nat.lt_or_ge k as.length with z | z
      · rw [List.drop_eq_getElem_cons (by omega)] at el
        cases el
      · omega
    subst hk2
    have ey : ys.take as.length ++ vs.drop as.length = ys := by
      rw [← ly, List.take_length, ly, ← Z.lv, List.drop_length, List.append_nil]
    rw [ey] at Zk
    have Zk := Zk.pos (q := fun _ => i + 1) (fun j hj => if_pos hj)
    refine wpAny_bind (wpAny_seqItems (s := ⟨h, g, d, tk, os⟩) Zk.to rfl ?_)
    refine wpAny_bind (wpAny_newTuple ?_ (by simp only [List.toList_toArray]; omega))
    show wpAny _ _ (Builtin.SmallTypes.ownedTupleHandOut (.ref (N + as.length + 2)) (.ref h.objs.size) >>= _) _ _ ⟨h.push (tupO ys), g, d, tk, os⟩
    refine wpAny_bind ?_
    unfold Builtin.SmallTypes.ownedTupleHandOut
    have lzz : N + as.length + 2 < h.objs.size := Heap.lt_size Zk.z
    have Zp : ZAll N as (fun _ => i + 1) ys .ellipsis f1 (h.push (tupO ys)) := Zk.keep fun c o _ _ e => Heap.get?_push_of_some _ e
    refine wpAny_bind (wpAny_setField_rec (s := ⟨h.push (tupO ys), g, d, tk, os⟩) Zp.z (by simp) fun h7 hz7 hs7 => ?_)
    have Z7 : ZAll N as (fun _ => i + 1) ys (rawInt h.objs.size) f1 h7 := Zp.atZ hz7 hs7
    refine wpAny_setField_rec (s := ⟨h7, g, d, tk, os⟩) Z7.z (by simp) fun h8 hz8 hs8 => ?_
    have Z8 : ZAll N as (fun _ => i + 1) ys (rawInt h.objs.size) (.bool false) h8 := Z7.atZ hz8 hs8
    refine wpAny_pure ⟨_, rfl, ?_⟩
    show Q (.ref h.objs.size) ⟨h8, g, d, tk, os⟩
    rw [zk]
    have up : ∀ c o, c ≠ N + as.length + 2 → (h.push (tupO ys)).get? c = some o → h8.get? c = some o := fun c o hc e => (hs8.2 c hc).trans ((hs7.2 c hc).trans e)
    refine hQ h8 _ Z8 ?_ ?_ fun c o hc e => up c o hc.nz (Heap.get?_push_of_some _ (ok c o hc e))
    · rw [← zk]
      exact up _ _ (Nat.ne_of_gt lzz) (Heap.get?_push_size _ rfl)
    · rw [hs8.1, hs7.1, Heap.size_push, zk]
  · rw [List.take_zero, List.nil_append, List.drop_zero]
    exact Z0.pos fun j _ => (if_neg (Nat.not_lt_zero j)).symm
set_option maxHeartbeats 2000000 in
/-- where it is still there -/
theorem zipN_held {N i : Nat} {as : List Addr} {vs ys : List Value} {T : Addr} {f : Bool} {oT : Obj} {Q : Value → Shared → Prop} {hp : Heap} {g : Array GenState} {d : _} {tk : Tok} {os : _} (Z : ZAll N as (fun _ => i) vs (rawInt T) (.bool f) hp) (n0 : 0 < as.length) (nz : as.length ≤ sizeLine) (ly : ys.length = as.length)
    (ha : ∀ (j : Nat) (a : Addr), as[j]? = some a → a < N ∧ ∃ items : Array Value, hp.IsTuple a items ∧ items[i]? = ys[j]?) (hT : hp.get? T = some oT)
    (hQ : ∀ h', ZAll N as (fun _ => i + 1) vs (rawInt T) (.bool true) h' → h'.get? hp.objs.size = some (tupO ys) → h'.objs.size = hp.objs.size + 1 → (∀ c o, Out N as.length c → hp.get? c = some o → h'.get? c = some o) → Q (.ref hp.objs.size) ⟨h', g, d, tk, os⟩) :
    wpAny (model prog w) A (Builtin.«zip.__next__» ⟨[.ref (N + as.length + 2)], []⟩) (fun fin s' => ∃ v, fin = .done (.ret v) ∧ Q v s') E ⟨hp, g, d, tk, os⟩ := by
  show wpAny _ _ (field (.ref (N + as.length + 2)) 2 >>= _) _ _ _
  refine wpAny_bind (wpAny_field Z.z rfl (x := .bool false) rfl ?_)
  show wpAny _ _ (field (.ref (N + as.length + 2)) 3 >>= _) _ _ _
  refine wpAny_bind (wpAny_field Z.z rfl (x := .ref (N + as.length)) rfl ?_)
  refine wpAny_bind (wpAny_seqItems Z.ti rfl ?_)
  have ne : ((refsFrom N as.length).toArray).isEmpty = false := by
    rw [Array.isEmpty_eq_false_iff_exists_mem]
    exact ⟨.ref (N + 0), by rw [List.mem_toArray]; exact List.mem_of_getElem? (refs_at n0)⟩
  simp only [ne, Bool.false_eq_true, if_false]
  show wpAny _ _ (Builtin.SmallTypes.ownedTupleIsFree (.ref (N + as.length + 2)) >>= _) _ _ _
  refine wpAny_bind (wpAny_tupleHeld_zip Z.z hT fun g0 hz0 hs0 => ?_)
  simp only [Bool.false_eq_true, if_false]
  have Z0 : ZAll N as (fun _ => i) vs (rawInt T) (.bool true) g0 := Z.atZ hz0 hs0
  have o0 : ∀ c o, Out N as.length c → hp.get? c = some o → g0.get? c = some o := fun c o hc e => (hs0.2 c hc.nz).trans e
  have z0 : g0.objs.size = hp.objs.size := hs0.1
  refine wpAny_bind ?_
  rw [← Array.forIn_toList]
  refine wpAny_forIn_list (fun l b s' => ∃ (k : Nat) (h : Heap), l = (refsFrom N as.length).drop k ∧ k ≤ as.length ∧ b = ⟨none, (ys.take k).toArray⟩ ∧ s' = ⟨h, g, d, tk, os⟩ ∧ ZAll N as (fun j => if j < k then i + 1 else i) vs (rawInt T) (.bool true) h ∧ h.objs.size = hp.objs.size ∧ ∀ c o, Out N as.length c → hp.get? c = some o → h.get? c = some o) (fun x xs b s' hI => ?_) (fun b s' hI => ?_) _ _ _ ⟨0, g0, rfl, Nat.zero_le _, rfl, rfl, Z0.pos fun j _ => (if_neg (Nat.not_lt_zero j)).symm, z0, o0⟩
  · obtain ⟨k, h, el, hk, rfl, rfl, Zk, zk, ok⟩ := hI
    have lz : (refsFrom N as.length).length = as.length := refs_len _ _
    have hk2 : k < as.length := by
      rcases Nat.lt_or_ge k as.length with z | z
      · exact z
      · rw [List.drop_eq_nil_of_le (by omega)] at el
        cases el
    rw [List.drop_eq_getElem_cons (by omega)] at el
    obtain ⟨rfl, rfl⟩ := List.cons.inj el
    have ex : (refsFrom N as.length)[k]'(by omega) = .ref (N + k) := by
      have := refs_at (N := N) hk2
      rw [List.getElem?_eq_getElem (by rw [refs_len]; exact hk2)] at this
      exact Option.some.inj this
    rw [ex]
    obtain ⟨a, ea⟩ : ∃ a, as[k]? = some a := ⟨_, List.getElem?_eq_getElem hk2⟩
    obtain ⟨aN, items, hit, hix⟩ := ha k a ea
    obtain ⟨y, ey⟩ : ∃ y, ys[k]? = some y := ⟨_, List.getElem?_eq_getElem (by omega)⟩
    have itk := Zk.it k a ea
    simp only [Nat.lt_irrefl, if_false] at itk
    refine wpAny_bind (wpAny_holding ?_)
    show wpAny _ _ (Builtin.SmallTypes.nextOf (.ref (N + k)) >>= _) _ _ ⟨h, g, d, tk, os⟩
    refine wpAny_bind (wpAny_nextOf_tuple_item (s := ⟨h, g, d, tk, os⟩) itk (hit.at fun o e => ok _ _ (.inl aN) e) (hix.trans ey) fun h1 it1 hs1 => wpAny_pure ?_)
    refine wpAny_pure ?_
    have Z1 := (Zk.atI ea it1 hs1).pos (q := fun j => if j < k + 1 then i + 1 else i) (fun j hj => by
      by_cases c1 : j = k
      · rw [if_pos c1, if_pos (by omega)]
      · rw [if_neg c1]
        by_cases c2 : j < k
        · rw [if_pos c2, if_pos (by omega)]
        · rw [if_neg c2, if_neg (by omega)])
    refine ⟨k + 1, h1, rfl, hk2, ?_, rfl, Z1, hs1.1.trans zk, fun c o hc e => (hs1.2 c (hc.ne (by omega))).trans (ok c o hc e)⟩
    rw [List.take_add_one, ey, Option.toList_some, List.push_toArray]
  · obtain ⟨k, h, el, hk, rfl, rfl, Zk, zk, ok⟩ := hI
    have lz : (refsFrom N as.length).length = as.length := refs_len _ _
    have hk2 : k = as.length := by
      rcases Nat.lt_or_ge k as.length with z | z
      · rw [List.drop_eq_getElem_cons (by omega)] at el
        cases el
      · omega
    subst hk2
    have ey : ys.take as.length = ys := by rw [← ly, List.take_length]
    rw [ey]
    have Zk := Zk.pos (q := fun _ => i + 1) (fun j hj => if_pos hj)
    refine wpAny_bind (wpAny_newTuple ?_ (by simp only [List.toList_toArray]; omega))
    refine wpAny_pure ⟨_, rfl, ?_⟩
    show Q (.ref h.objs.size) ⟨h.push (tupO ys), g, d, tk, os⟩
    rw [zk]
    refine hQ _ (Zk.keep fun c o _ _ e => Heap.get?_push_of_some _ e) ?_ ?_ fun c o hc e => Heap.get?_push_of_some _ (ok c o hc e)
    · rw [← zk]
      exact Heap.get?_push_size _ rfl
    · rw [Heap.size_push, zk]
/-- the first one has no more -/
theorem zipN_endF {N i : Nat} {as : List Addr} {vs : List Value} {f0 f1 : Value} {a : Addr} {items : Array Value} {Q : Fin → Shared → Prop} {hp : Heap} {g : Array GenState} {d : _} {tk : Tok} {os : _} (hh : A.handled = none) (Z : ZAll N as (fun _ => i) vs f0 f1 hp) (ha : as[0]? = some a) (aN : a < N) (hit : hp.IsTuple a items) (hx : items[i]? = none)
    (hf : ∀ {A' : Around} {E' : Value → Shared → Prop} {Q' : Bool → Shared → Prop}, Q' true ⟨hp, g, d, tk, os⟩ → wpAny (model prog w) A' (Builtin.SmallTypes.ownedTupleIsFree (.ref (N + as.length + 2))) Q' E' ⟨hp, g, d, tk, os⟩)
    (hE : ∀ h' e, (∀ c o, Out N as.length c → hp.get? c = some o → h'.get? c = some o) → (∃ o, h'.get? e = some o ∧ o.cls = .type "StopIteration") → E (.ref e) ⟨h', g, d, tk, os⟩) :
    wpAny (model prog w) A (Builtin.«zip.__next__» ⟨[.ref (N + as.length + 2)], []⟩) Q E ⟨hp, g, d, tk, os⟩ := by
  have n0 := at_len ha
  show wpAny _ _ (field (.ref (N + as.length + 2)) 2 >>= _) _ _ _
  refine wpAny_bind (wpAny_field Z.z rfl (x := .bool false) rfl ?_)
  show wpAny _ _ (field (.ref (N + as.length + 2)) 3 >>= _) _ _ _
  refine wpAny_bind (wpAny_field Z.z rfl (x := .ref (N + as.length)) rfl ?_)
  refine wpAny_bind (wpAny_seqItems Z.ti rfl ?_)
  have ne : ((refsFrom N as.length).toArray).isEmpty = false := by
    rw [Array.isEmpty_eq_false_iff_exists_mem]
    exact ⟨.ref (N + 0), by rw [List.mem_toArray]; exact List.mem_of_getElem? (refs_at n0)⟩
  simp only [ne, Bool.false_eq_true, if_false]
  show wpAny _ _ (Builtin.SmallTypes.ownedTupleIsFree (.ref (N + as.length + 2)) >>= _) _ _ _
  refine wpAny_bind (hf ?_)
  simp only [if_true]
  refine wpAny_bind (wpAny_rule ?_)
  refine wpAny_bind (wpAny_field Z.z rfl (x := .ref (N + as.length + 1)) rfl ?_)
  refine wpAny_bind (wpAny_setField_rec Z.z (by simp) fun g0 hz0 hs0 => ?_)
  have Z0 : ZAll N as (fun _ => i) vs .ellipsis f1 g0 := Z.atZ hz0 hs0
  have o0 : ∀ c o, Out N as.length c → hp.get? c = some o → g0.get? c = some o := fun c o hc e => (hs0.2 c hc.nz).trans e
  have lz : ((refsFrom N as.length).zipIdx).length = as.length := by rw [List.length_zipIdx, refs_len]
  refine wpAny_bind (wpAny_forIn_list (fun l b s' => l = (refsFrom N as.length).zipIdx ∧ s' = ⟨g0, g, d, tk, os⟩) (fun x xs b s' hI => ?_) (fun b s' hI => ?_) _ _ _ ⟨rfl, rfl⟩)
  · obtain ⟨el, rfl⟩ := hI
    have ex : x = (.ref (N + 0), 0) := by
      have h0 : ((refsFrom N as.length).zipIdx)[0]? = some x := by rw [← el]; rfl
      rw [List.getElem?_zipIdx, refs_at n0] at h0
      exact (Option.some.inj h0).symm
    subst ex
    refine wpAny_bind (wpAny_onRaise ?_)
    show wpAny _ _ (Builtin.SmallTypes.nextOf (.ref (N + 0)) >>= _) _ _ ⟨g0, g, d, tk, os⟩
    refine wpAny_bind (wpAny_nextOf_tuple_end (s := ⟨g0, g, d, tk, os⟩) hh (Z0.it 0 a ha) (hit.at fun o e => o0 _ _ (.inl aN) e) hx fun q e hq he => ?_)
    obtain ⟨oe, hoe, hce⟩ := he
    have hzq : ZipIs q (N + as.length + 2) (N + as.length) (N + as.length + 1) .ellipsis f1 := hq _ _ (Nat.ne_of_gt (by omega)) Z0.z
    have hez : e ≠ N + as.length + 2 := fun x => by
      rw [x, show q.get? (N + as.length + 2) = _ from hzq] at hoe
      cases hoe
      simp at hce
    refine wpAny_setField_rec (s := ⟨q, g, d, tk, os⟩) hzq (by simp) fun q' _ hq' => ?_
    exact hE q' e (fun c o hc x => (hq'.2 c hc.nz).trans (hq _ _ (hc.ne (k := 0) (by omega)) (o0 c o hc x))) ⟨oe, (hq'.2 _ hez).trans hoe, hce⟩
  · obtain ⟨el, rfl⟩ := hI
    rw [← el] at lz
    exact absurd lz (Nat.ne_of_lt n0)
theorem zipN_endH {N i : Nat} {as : List Addr} {vs : List Value} {T : Addr} {f : Bool} {oT : Obj} {a : Addr} {items : Array Value} {Q : Fin → Shared → Prop} {hp : Heap} {g : Array GenState} {d : _} {tk : Tok} {os : _} (hh : A.handled = none) (Z : ZAll N as (fun _ => i) vs (rawInt T) (.bool f) hp) (ha : as[0]? = some a) (aN : a < N) (hit : hp.IsTuple a items) (hx : items[i]? = none) (hT : hp.get? T = some oT)
    (hE : ∀ h' e, (∀ c o, Out N as.length c → hp.get? c = some o → h'.get? c = some o) → (∃ o, h'.get? e = some o ∧ o.cls = .type "StopIteration") → E (.ref e) ⟨h', g, d, tk, os⟩) :
    wpAny (model prog w) A (Builtin.«zip.__next__» ⟨[.ref (N + as.length + 2)], []⟩) Q E ⟨hp, g, d, tk, os⟩ := by
  have n0 := at_len ha
  show wpAny _ _ (field (.ref (N + as.length + 2)) 2 >>= _) _ _ _
  refine wpAny_bind (wpAny_field Z.z rfl (x := .bool false) rfl ?_)
  show wpAny _ _ (field (.ref (N + as.length + 2)) 3 >>= _) _ _ _
  refine wpAny_bind (wpAny_field Z.z rfl (x := .ref (N + as.length)) rfl ?_)
  refine wpAny_bind (wpAny_seqItems Z.ti rfl ?_)
  have ne : ((refsFrom N as.length).toArray).isEmpty = false := by
    rw [Array.isEmpty_eq_false_iff_exists_mem]
    exact ⟨.ref (N + 0), by rw [List.mem_toArray]; exact List.mem_of_getElem? (refs_at n0)⟩
  simp only [ne, Bool.false_eq_true, if_false]
  show wpAny _ _ (Builtin.SmallTypes.ownedTupleIsFree (.ref (N + as.length + 2)) >>= _) _ _ _
  refine wpAny_bind (wpAny_tupleHeld_zip Z.z hT fun g0 hz0 hs0 => ?_)
  simp only [Bool.false_eq_true, if_false]
  have Z0 : ZAll N as (fun _ => i) vs (rawInt T) (.bool true) g0 := Z.atZ hz0 hs0
  have o0 : ∀ c o, Out N as.length c → hp.get? c = some o → g0.get? c = some o := fun c o hc e => (hs0.2 c hc.nz).trans e
  refine wpAny_bind ?_
  rw [← Array.forIn_toList]
  refine wpAny_forIn_list (fun l b s' => l = refsFrom N as.length ∧ s' = ⟨g0, g, d, tk, os⟩) (fun x xs b s' hI => ?_) (fun b s' hI => ?_) _ _ _ ⟨rfl, rfl⟩
  · obtain ⟨el, rfl⟩ := hI
    have ex : x = .ref (N + 0) := by
      have h0 : (refsFrom N as.length)[0]? = some x := by rw [← el]; rfl
      rw [refs_at n0] at h0
      exact (Option.some.inj h0).symm
    subst ex
    refine wpAny_bind (wpAny_holding ?_)
    show wpAny _ _ (Builtin.SmallTypes.nextOf (.ref (N + 0)) >>= _) _ _ ⟨g0, g, d, tk, os⟩
    refine wpAny_bind (wpAny_nextOf_tuple_end (s := ⟨g0, g, d, tk, os⟩) hh (Z0.it 0 a ha) (hit.at fun o e => o0 _ _ (.inl aN) e) hx fun q e hq he => ?_)
    exact hE q e (fun c o hc x => hq _ _ (hc.ne (k := 0) (by omega)) (o0 c o hc x)) he
  · obtain ⟨el, rfl⟩ := hI
    have lz := refs_len N as.length
    rw [← el] at lz
    exact absurd lz (Nat.ne_of_lt n0)
/-- at a turn -/
def ZAt (N : Nat) (as : List Addr) (i : Nat) (h : Heap) : Prop := ∃ vs f0 f1, ZAll N as (fun _ => i) vs f0 f1 h ∧ (f0 = .none ∨ ∃ (T : Addr) (f : Bool), f0 = rawInt T ∧ f1 = .bool f)
theorem free_none {N : Nat} {as : List Addr} {p : Nat → Nat} {vs : List Value} {f1 : Value} {s : Shared} (Z : ZAll N as p vs .none f1 s.heap) : ∀ {A' : Around} {E' : Value → Shared → Prop} {Q' : Bool → Shared → Prop}, Q' true s → wpAny (model prog w) A' (Builtin.SmallTypes.ownedTupleIsFree (.ref (N + as.length + 2))) Q' E' s := fun q => by
  unfold Builtin.SmallTypes.ownedTupleIsFree
  exact wpAny_bind (wpAny_field Z.z rfl (x := .none) rfl (wpAny_pure q))
theorem free_dead {N : Nat} {as : List Addr} {p : Nat → Nat} {vs : List Value} {f1 : Value} {T : Addr} {s : Shared} (Z : ZAll N as p vs (rawInt T) f1 s.heap) (hT : s.heap.get? T = none) : ∀ {A' : Around} {E' : Value → Shared → Prop} {Q' : Bool → Shared → Prop}, Q' true s → wpAny (model prog w) A' (Builtin.SmallTypes.ownedTupleIsFree (.ref (N + as.length + 2))) Q' E' s := fun {A' E' Q'} q => by
  unfold Builtin.SmallTypes.ownedTupleIsFree
  refine wpAny_bind (wpAny_field Z.z rfl (x := rawInt T) rfl ?_)
  show wpAny _ _ (loadIfAlive ((T : Int).toNat) >>= _) _ _ _
  rw [Int.toNat_natCast]
  have al : ∀ {Q'' : Option Obj → Shared → Prop}, Q'' none s → wpAny (model prog w) A' (loadIfAlive T) Q'' E' s := fun {Q''} z => by
    have h' : Q'' (s.heap.get? T) s := by rw [hT]; exact z
    exact fun _ _ _ => h'
  refine wpAny_bind (al ?_)
  exact wpAny_pure q
theorem pyNext_zipN_item {N i : Nat} {as : List Addr} {ys : List Value} {s : Shared} {Q : Option Value → Shared → Prop} (Z : ZAt N as i s.heap) (n0 : 0 < as.length) (nz : as.length ≤ sizeLine) (ly : ys.length = as.length)
    (ha : ∀ (j : Nat) (a : Addr), as[j]? = some a → a < N ∧ ∃ items : Array Value, s.heap.IsTuple a items ∧ items[i]? = ys[j]?)
    (hQ : ∀ h', ZAt N as (i + 1) h' → h'.get? s.heap.objs.size = some (tupO ys) → h'.objs.size = s.heap.objs.size + 1 → (∀ c o, Out N as.length c → s.heap.get? c = some o → h'.get? c = some o) → Q (some (.ref s.heap.objs.size)) { s with heap := h' }) :
    wpAny (model prog w) A (pyNext (.ref (N + as.length + 2))) Q E s := by
  obtain ⟨vs, f0, f1, Z, hf⟩ := Z
  have hTy : s.TypeIs (.ref (N + as.length + 2)) "zip" := ⟨_, Z.z, rfl⟩
  obtain ⟨hp, g, d, tk, os⟩ := s
  unfold pyNext
  refine wpAny_bind (wpAny_attempt (wpAny_callSpecial?_slot (name := Str.ofString "__next__") hTy F.slot_zip_next
    (wpAny_call_entry F.slot_zip_next hTy F.entry_zip_next (Q := fun v s' => wpAny _ _ _ _ _ s') ?_ (F.args_zip_next_1 _))))
  rcases hf with rfl | ⟨T, f, rfl, rfl⟩
  · exact zipN_free Z n0 nz ly ha (free_none Z) fun h' T Z' e1 e2 e3 => wpAny_pure (hQ h' ⟨_, _, _, Z', .inr ⟨T, false, rfl, rfl⟩⟩ e1 e2 e3)
  · cases hT : hp.get? T with
    | none => exact zipN_free Z n0 nz ly ha (free_dead Z hT) fun h' T Z' e1 e2 e3 => wpAny_pure (hQ h' ⟨_, _, _, Z', .inr ⟨T, false, rfl, rfl⟩⟩ e1 e2 e3)
    | some oT => exact zipN_held Z n0 nz ly ha hT fun h' Z' e1 e2 e3 => wpAny_pure (hQ h' ⟨_, _, _, Z', .inr ⟨T, true, rfl, rfl⟩⟩ e1 e2 e3)
theorem pyNext_zipN_end {N i : Nat} {as : List Addr} {a : Addr} {items : Array Value} {s : Shared} {Q : Option Value → Shared → Prop} (hh : A.handled = none) (Z : ZAt N as i s.heap) (ha : as[0]? = some a) (aN : a < N) (hit : s.heap.IsTuple a items) (hx : items[i]? = none)
    (hQ : ∀ h', (∀ c o, Out N as.length c → s.heap.get? c = some o → h'.get? c = some o) → Q none { s with heap := h' }) :
    wpAny (model prog w) A (pyNext (.ref (N + as.length + 2))) Q E s := by
  obtain ⟨vs, f0, f1, Z, hf⟩ := Z
  have hTy : s.TypeIs (.ref (N + as.length + 2)) "zip" := ⟨_, Z.z, rfl⟩
  obtain ⟨hp, g, d, tk, os⟩ := s
  have fin : ∀ h' e, (∀ c o, Out N as.length c → hp.get? c = some o → h'.get? c = some o) → (∃ o, h'.get? e = some o ∧ o.cls = .type "StopIteration") → wpAny (model prog w) A (do if ← isInstance (.ref e) (.type "StopIteration") then pure none else throw (Value.ref e)) Q E ⟨h', g, d, tk, os⟩ := fun h' e hk he => by
    obtain ⟨o, ho, hc⟩ := he
    refine wpAny_bind (wpAny_isInstance (T := "StopIteration") (b := true) ⟨o, ho, hc⟩ isSubtype_stop ?_)
    exact wpAny_pure (hQ _ hk)
  unfold pyNext
  rcases hf with rfl | ⟨T, f, rfl, rfl⟩
  · refine wpAny_bind (wpAny_attempt (wpAny_callSpecial?_slot (name := Str.ofString "__next__") hTy F.slot_zip_next (wpAny_call_entry F.slot_zip_next hTy F.entry_zip_next (zipN_endF hh Z ha aN hit hx (free_none Z) fun h' e hk he => ?_) (F.args_zip_next_1 _))))
    exact fin h' e hk he
  · cases hT : hp.get? T with
    | none =>
      refine wpAny_bind (wpAny_attempt (wpAny_callSpecial?_slot (name := Str.ofString "__next__") hTy F.slot_zip_next (wpAny_call_entry F.slot_zip_next hTy F.entry_zip_next (zipN_endF hh Z ha aN hit hx (free_dead Z hT) fun h' e hk he => ?_) (F.args_zip_next_1 _))))
      exact fin h' e hk he
    | some oT =>
      refine wpAny_bind (wpAny_attempt (wpAny_callSpecial?_slot (name := Str.ofString "__next__") hTy F.slot_zip_next (wpAny_call_entry F.slot_zip_next hTy F.entry_zip_next (zipN_endH hh Z ha aN hit hx hT fun h' e hk he => ?_) (F.args_zip_next_1 _))))
      exact fin h' e hk he
end
/-! ### for x in zip(*xs), xs a list of tuples -/
theorem pyIter_zipX {prog : Program} {w : World} {A : Around} {E : Value → Shared → Prop} {s : Shared} {z TI TO : Addr} {f0 f1 : Value} {Q : Value → Shared → Prop} (hz : ZipIs s.heap z TI TO f0 f1) (h : Q (.ref z) s) : wpAny (model prog w) A (pyIter (.ref z)) Q E s := by
  have hT : s.TypeIs (.ref z) "zip" := ⟨_, hz, rfl⟩
  refine wpAny_pyIter_slot hT F.slot_zip_iter (wpAny_call_entry F.slot_zip_iter hT F.entry_zip_iter ?_ (F.args_zip_iter_1 _))
  show wpAny _ _ (ret (.ref z)) _ _ s
  exact wpAny_pure ⟨_, rfl, "zip", _, hT, F.slot_zip_next.lookup, h⟩
def ItN (K : PySem.W.Frag) (as : List Addr) : It where
  go := fun i H => ∃ zs : List V, zs.length = as.length ∧ ∀ (j : Nat) (a : Addr), as[j]? = some a → ∃ xs z, SqT K H a xs ∧ xs[i]? = some z ∧ zs[j]? = some z
  yld := fun i H v H' => ∃ (T : Addr) (zs : List V), v = .ref T ∧ H T = none ∧ H' = upd H T (.tup zs) ∧ zs.length = as.length ∧ ∀ (j : Nat) (a : Addr), as[j]? = some a → ∀ l, SqT K H a l → l[i]? = zs[j]?
  stop := fun i H => ∃ a xs, as[0]? = some a ∧ SqT K H a xs ∧ xs.length ≤ i
def ownN (N n : Nat) : List Addr := (List.range (n + 3)).map (N + ·)
theorem mem_ownN {N n : Nat} {c : Addr} (h : c ∈ ownN N n) : ∃ k, k ≤ n + 2 ∧ c = N + k := by
  obtain ⟨k, hk, rfl⟩ := List.mem_map.mp h
  exact ⟨k, by have := List.mem_range.mp hk; omega, rfl⟩
theorem in_ownN {N n k : Nat} (h : k ≤ n + 2) : (N + k : Addr) ∈ ownN N n := List.mem_map.mpr ⟨k, List.mem_range.mpr (by omega), rfl⟩
theorem out_ownN {N n : Nat} {c : Addr} (h : c ∉ ownN N n) : Out N n c := by
  rcases Nat.lt_or_ge c N with z | z
  · exact .inl z
  · rcases Nat.lt_or_ge (N + n + 2) c with y | y
    · exact .inr y
    · refine absurd ?_ h
      have := in_ownN (N := N) (n := n) (k := c - N) (by omega)
      rwa [Nat.add_sub_cancel' z] at this
theorem vals_pick {R : Nat → Value → Prop} : ∀ {zs : List V}, (∀ j z, zs[j]? = some z → ∃ u, RelV z u ∧ R j u) → ∃ ys : List Value, Vals zs ys ∧ ∀ j u, ys[j]? = some u → R j u
  | [], _ => ⟨[], .nil, fun j u e => by simp at e⟩
  | z :: zs, h => by
    obtain ⟨u, r, hu⟩ := h 0 z rfl
    obtain ⟨ys, rv, hy⟩ := vals_pick (R := fun j => R (j + 1)) (zs := zs) fun j z e => h (j + 1) z e
    refine ⟨u :: ys, .cons r rv, fun j v e => ?_⟩
    cases j with
    | zero =>
      cases e
      exact hu
    | succ j => exact hy j v e
theorem turnN {P : Program} {w : World} {K : PySem.W.Frag} {x : Str} {tpos : Pos} {N : Nat} {as : List Addr} (n0 : 0 < as.length) (nz : as.length ≤ sizeLine) (aN : ∀ a ∈ as, a < N) :
    Turn P w K (.Name x tpos) (ItN K as) (ownN N as.length) (N + as.length + 2) (ZAt N as) := by
  refine ⟨in_ownN (k := as.length + 2) (Nat.le_refl _), fun i h st q hq => ?_, fun i h h' st k => ?_, ?_, ?_, fun A i s Q E st h => ?_⟩
  · obtain ⟨vs, f0, f1, Z, _⟩ := st
    obtain ⟨k, hk, rfl⟩ := mem_ownN hq
    rcases Nat.lt_or_ge k as.length with z | z
    · obtain ⟨o, e, _, d⟩ := Z.it k as[k] (List.getElem?_eq_getElem z)
      exact ⟨o, e, fun v y => by rw [d] at y; cases y⟩
    · have hk3 : k = as.length ∨ k = as.length + 1 ∨ k = as.length + 2 := by omega
      rcases hk3 with rfl | rfl | rfl
      · exact ⟨_, Z.ti, fun v y => nomatch y⟩
      · exact ⟨_, Z.to, fun v y => nomatch y⟩
      · exact ⟨_, Z.z, fun v y => nomatch y⟩
  · obtain ⟨vs, f0, f1, Z, hf⟩ := st
    refine ⟨vs, f0, f1, Z.keep fun c o h1 h2 e => k c ?_ o e, hf⟩
    have := in_ownN (N := N) (n := as.length) (k := c - N) (by omega)
    rwa [Nat.add_sub_cancel' h1] at this
  · intro X hP hw hK hc i pins s σ H E I hf st hg
    subst hP hw hK
    obtain ⟨zs, lz, hg⟩ := hg
    obtain ⟨ys, rv, hy⟩ := vals_pick (R := fun j u => ∀ a, as[j]? = some a → ∃ items : Array Value, s.heap.IsTuple a items ∧ items[i]? = some u) (zs := zs) fun j z e => by
      have hj : j < as.length := by have := at_len e; omega
      obtain ⟨xs, z', q, e1, e2⟩ := hg j as[j] (List.getElem?_eq_getElem hj)
      have ez : z' = z := Option.some.inj (e2.symm.trans e)
      subst ez
      obtain ⟨js, r1, p1, _⟩ := I.tuple q
      obtain ⟨u, f1, m1⟩ := r1.get e1
      refine ⟨u, m1, fun a ha => ?_⟩
      have ea : as[j] = a := Option.some.inj ((List.getElem?_eq_getElem hj).symm.trans ha)
      subst ea
      exact ⟨js.toArray, p1, by simpa using f1⟩
    have ly : ys.length = as.length := by rw [← lz]; exact rv.length.symm
    refine pyNext_zipN_item st n0 nz ly (fun j a ha => ⟨aN a (List.mem_of_getElem? ha), ?_⟩) fun h' st' hT hsz hk => ?_
    · have hj : j < ys.length := by have := at_len ha; omega
      obtain ⟨items, h1, h2⟩ := hy j ys[j] (List.getElem?_eq_getElem hj) a ha
      exact ⟨items, h1, h2.trans (List.getElem?_eq_getElem hj).symm⟩
    · refine ⟨_, rfl, ?_⟩
      show wpAny _ _ (pure ()) _ _ _
      have fresh : H s.heap.objs.size = none := I.hok.fresh (Nat.le_refl _)
      have new : ObjOk X.prog X.w (upd H s.heap.objs.size (.tup zs)) h' s.heap.objs.size (.tup zs) :=
        ⟨by rw [lz]; exact nz, ys, rv, ⟨_, hT, rfl, _, rfl⟩⟩
      refine wpAny_pure ⟨.ref s.heap.objs.size, _, I.turnedNew (t' := s.toks) (ch := ownN N as.length) (fun q o nq e => hk q o (out_ownN nq) e) hf (Nat.le_refl _) new, rfl, ⟨_, zs, rfl, fresh, rfl, lz, fun j a ha l hl => ?_⟩, st', fun q hq => ?_⟩
      · obtain ⟨xs, z, q, e1, e2⟩ := hg j a ha
        rw [I.tuple_inj hl q, e1, e2]
      · obtain ⟨vs, f0, f1, Z, _⟩ := st
        have lzz : N + as.length + 2 < s.heap.objs.size := Heap.lt_size Z.z
        have lq : q < s.heap.objs.size := by
          obtain ⟨k, hk, rfl⟩ := mem_ownN hq
          exact Nat.lt_of_le_of_lt (by omega) lzz
        rw [upd_ne (Nat.ne_of_lt lq)]
        exact (hf q hq).1
  · intro X hP hw hK hc i pins s σ H E I hf st hg
    subst hP hw hK
    obtain ⟨a, xs, ha, q, hl⟩ := hg
    obtain ⟨js, r1, p1, _⟩ := I.tuple q
    have l1 := r1.length
    refine pyNext_zipN_end (I.ok.hd hc) st ha (aN a (List.mem_of_getElem? ha)) (show s.heap.IsTuple a js.toArray from p1) (by simp; omega) fun h' hk => ?_
    exact ⟨rfl, I.turnedL (t' := s.toks) (ch := ownN N as.length) (fun q o nq e => hk q o (out_ownN nq) e) hf⟩
  · obtain ⟨vs, f0, f1, Z, _⟩ := st
    exact pyIter_zipX Z.z h
theorem call_zipN {prog : Program} {w : World} {A : Around} {E : Value → Shared → Prop} {s : Shared} {as : List Addr} {Q : Value → Shared → Prop} (n0 : 0 < as.length) (nz : as.length ≤ sizeLine) (ht : ∀ a ∈ as, ∃ items, s.heap.IsTuple a items)
    (hQ : ∀ h', ZAt s.heap.objs.size as 0 h' → (∀ c o, s.heap.get? c = some o → h'.get? c = some o) → Q (.ref (s.heap.objs.size + as.length + 2)) { s with heap := h' }) : wpAny (model prog w) A (call (.type "zip") (as.map Value.ref)) Q E s := by
  obtain ⟨b, bs, rfl⟩ : ∃ b bs, as = b :: bs := by
    cases as with
    | nil => exact absurd n0 (by decide)
    | cons b bs => exact ⟨b, bs, rfl⟩
  rw [List.map_cons]
  refine callType_new F.called_zip (by decide) (typeCall_zipN _) (newCall_zipN _ _) (fun obj => args_initN obj _ _) F.entry_zip_new (meets_zip_newN (b :: bs) nz) ⟨ht, ?_⟩
  generalize b :: bs = as at *
  have z1 := pushIts_size as s.heap
  have z2 : (zipT s.heap as).objs.size = s.heap.objs.size + as.length + 1 := by unfold zipT; rw [Heap.size_push, z1]
  have z3 : (zipO s.heap as).objs.size = s.heap.objs.size + as.length + 2 := by unfold zipO; rw [Heap.size_push, z2]
  have gZ : (zipZ s.heap as).get? (zipO s.heap as).objs.size = some { cls := .type "zip", data := .fields #[.none, .bool false, .bool false, .ref (pushIts s.heap as).objs.size, .ref (zipT s.heap as).objs.size] } := Heap.get?_push_size _ rfl
  have gO : (zipZ s.heap as).get? (zipT s.heap as).objs.size = some (tupO (List.replicate as.length .none)) := Heap.get?_push_of_some _ (Heap.get?_push_size _ rfl)
  have gT : (zipZ s.heap as).get? (pushIts s.heap as).objs.size = some (tupO (refsFrom s.heap.objs.size as.length)) := Heap.get?_push_of_some _ (Heap.get?_push_of_some _ (Heap.get?_push_size _ rfl))
  have up : ∀ c o, (pushIts s.heap as).get? c = some o → (zipZ s.heap as).get? c = some o := fun c o e => Heap.get?_push_of_some _ (Heap.get?_push_of_some _ (Heap.get?_push_of_some _ e))
  rw [z3, z2, z1] at gZ
  rw [z2] at gO
  rw [z1] at gT
  refine ⟨⟨_, by rw [z3]; exact gZ, rfl⟩, ?_⟩
  rw [z3]
  exact hQ _ ⟨_, .none, .bool false, ⟨gZ, gT, List.length_replicate, gO, fun j a ha => ⟨_, up _ _ (pushIts_new as s.heap j a ha), rfl, rfl⟩⟩, .inl rfl⟩ fun c o e => up c o (pushIts_old as _ e)
def iZipN (K : PySem.W.Frag) (te : TE) : TI := fun σ H R => te σ H fun y H1 => ∃ (b : Addr) (as : List Addr), y = .ref b ∧ (SqT K H1 b (as.map V.ref) ∨ SqL K H1 b (as.map V.ref)) ∧ 0 < as.length ∧ (∀ a ∈ as, ∃ xs, SqT K H1 a xs) ∧ R (ItN K as) H1
theorem vals_refs : ∀ {as : List Addr} {us : List Value}, Vals (as.map V.ref) us → us = as.map Value.ref
  | [], _, h => by cases h; rfl
  | a :: as, _, h => by
    cases h with
    | cons r rr =>
      rw [vals_refs rr, show _ = Value.ref a from r]
      rfl
theorem pi_zipN (K : PySem.W.Frag) {X : Cx} {e : Expr} {te : TE} {p pos tpos sp : Pos} {x : Str} (hg : Gl X "zip") (hm : X.mg "zip" = none) (he : PE X e te)
    (hst : starEach [.Starred e sp] X.env = [(true, eval e X.env)] := by rfl) (hK : X.K = K := by rfl) :
    PI X (.Name x tpos) (.Call (.Name "zip" p) [.Starred e sp] [] pos) (iZipN K te) := by
  subst hK
  refine ⟨fun pins s σ H R I h => ?_⟩
  refine Call_ (ld_blt I hg hm PyProof.Rows.boot_zip ?_)
  rw [hst]
  refine PySem.W.ks_call (P := fun _ => True) rfl (fun h _ => ⟨.machine, .inr (.inl rfl), PySem.W.Looks.of_pure rfl⟩) (PySem.W.ks_lone (thn (he.run pins s σ H _ I h) fun v s1 ⟨y, H1, I1, ry, b, as, ey, hb, n0, hT, q⟩ => ?_))
  subst ey
  obtain rfl : v = Value.ref b := ry
  have lz : as.length ≤ sizeLine := by
    rcases hb with hb | hb
    · obtain ⟨_, _, _, z⟩ := I1.tuple hb
      rwa [List.length_map] at z
    · obtain ⟨_, _, _, z⟩ := I1.list hb
      rwa [List.length_map] at z
  refine StX.star_any I1 hb fun us s2 I2 rv => ⟨trivial, ?_⟩
  have eu := vals_refs rv
  subst eu
  refine call_zipN n0 lz (fun a ha => ?_) fun h' Z hk => ?_
  · obtain ⟨xs, hx⟩ := hT a ha
    obtain ⟨js, _, p1, _⟩ := I2.tuple hx
    exact ⟨js.toArray, p1⟩
  · have I3 : Inv X pins σ H1 { s2 with heap := h' } := I2.kept (t' := s2.toks) hk
    have aN : ∀ a ∈ as, a < s2.heap.objs.size := fun a ha => by
      obtain ⟨xs, hx⟩ := hT a ha
      obtain ⟨js, _, p1, _⟩ := I2.tuple hx
      obtain ⟨_, o, _⟩ := p1
      exact Heap.lt_size o
    have fr : ∀ y, s2.heap.objs.size ≤ y → FpOk X pins H1 y := fun y hle => I2.fpOk hle (I2.hok.fresh hle)
    obtain ⟨vs, f0, f1, Z0, _⟩ := id Z
    refine pyIter_zipX (s := { s2 with heap := h' }) Z0.z ?_
    exact ⟨_, ownN s2.heap.objs.size as.length, ZAt s2.heap.objs.size as, ItN X.K as, H1, rfl, I3, turnN n0 lz aN, Z, fun y hy => by
      obtain ⟨k, hk, rfl⟩ := mem_ownN hy
      exact fr _ (Nat.le_add_right _ _), q⟩
/-- all as long as one another -/
def YN (W : Nat) (xss : List (List V)) : Nat → Hp → V → Hp → Prop := fun i H v H' => ∃ (T : Addr) (zs : List V), v = .ref T ∧ H T = none ∧ H' = upd H T (.tup zs) ∧ zs.length = xss.length ∧ ∀ (j : Nat) (xs : List V), xss[j]? = some xs → xs[i]? = zs[j]?
theorem walk_zipN {K : PySem.W.Frag} {as : List Addr} {xss : List (List V)} {W : Nat} (hl : xss.length = as.length) (n0 : 0 < as.length) (hw : ∀ xs ∈ xss, xs.length = W) :
    Walk (ItN K as) W (fun H => ∀ (j : Nat) (a : Addr) (xs : List V), as[j]? = some a → xss[j]? = some xs → SqT K H a xs) (YN W xss) := by
  refine ⟨fun i H hi q => ⟨xss.map fun xs => xs.getD i .non, by rw [List.length_map, hl], fun j a ha => ?_⟩, fun H q => ?_, fun i H v H' hi q y => ?_⟩
  · have hj : j < xss.length := by have := at_len ha; omega
    have e1 := List.getElem?_eq_getElem hj
    have lx := hw _ (List.getElem_mem hj)
    have e2 : (xss[j])[i]? = some ((xss[j])[i]'(by omega)) := List.getElem?_eq_getElem (by omega)
    refine ⟨xss[j], _, q j a _ ha e1, e2, ?_⟩
    rw [List.getElem?_map, e1]
    simp only [Option.map_some]
    rw [List.getD_eq_getElem?_getD, e2]
    rfl
  · have hj : 0 < xss.length := by omega
    exact ⟨as[0], xss[0], List.getElem?_eq_getElem n0, q 0 _ _ (List.getElem?_eq_getElem n0) (List.getElem?_eq_getElem hj), by rw [hw _ (List.getElem_mem hj)]; exact Nat.le_refl _⟩
  · obtain ⟨T, zs, e1, e2, e3, e4, e5⟩ := y
    refine ⟨T, zs, e1, e2, e3, by omega, fun j xs hx => ?_⟩
    have hj : j < as.length := by have := at_len hx; omega
    exact e5 j as[j] (List.getElem?_eq_getElem hj) xs (q j _ _ (List.getElem?_eq_getElem hj) hx)
/-! ### min and max of a tuple of ints; a star in a display -/
theorem min_tup {prog : Program} {w : World} {A : Around} {E : Value → Shared → Prop} {s : Shared} {l : Addr} {its : List Value} {ns : List Int} {Q : Value → Shared → Prop} (hh : A.handled = none) (hl : s.heap.IsTuple l its.toArray) (hi : IntsAre its ns) (hne : 0 < ns.length)
    (h : ∀ h' tk M t', (∀ b o, s.heap.get? b = some o → h'.get? b = some o) → M ∈ ns → (∀ a, a ∈ ns → M ≤ a) → Q (.int M t') { s with heap := h', toks := tk }) : wpAny (model prog w) A (call (.builtin "min") [.ref l]) Q E s := by
  obtain ⟨xs, e⟩ := hi.allInts.items
  have hn : numsOf (intItems xs).toList = ns := by rw [← e]; exact hi.numsOf
  rw [nums_intItems] at hn
  subst hn
  rw [e] at hl
  have hsz : 0 < xs.size := by simpa using hne
  have lt : l < s.heap.objs.size := by obtain ⟨_, o, _⟩ := hl; exact Heap.lt_size o
  refine call_min_walk (wpAny_pyIter_tuple hl ?_)
  have hlI : l ≠ s.heap.objs.size := Nat.ne_of_lt lt
  refine ⟨_, _, _, _, _, _, _, rfl, Walks.tuple (A := A.in1) hh s.heap.objs.size l hlI (intItems xs), ⟨⟨_, Heap.get?_push_size _ rfl, rfl, rfl⟩, hl.at fun o e => Heap.get?_push_of_some _ e⟩, fun b hb => ?_, by simpa [intItems] using hsz, CmpOf.ints_lt (numAt xs) (fun _ _ => intItems_at), fun v h' tk hP hk => ?_⟩
  · show b < (s.heap.push _).objs.size
    rw [Heap.size_push]
    rcases List.mem_cons.mp hb with q | q
    · rw [q]; exact Nat.lt_succ_self _
    · rw [List.mem_singleton.mp q]; exact Nat.lt_succ_of_lt lt
  · have hP' : (intItems xs)[argBest (fun i j => decide (numAt xs i < numAt xs j)) (xs.size - 1)]? = some v := by simpa [intItems] using hP
    obtain ⟨t, rfl⟩ := intItems_at hP'
    obtain ⟨h1, h2⟩ := argBest_lt (numAt xs) (xs.size - 1)
    refine h h' tk _ t (fun b o eb => hk b o (fun hb => ?_) (Heap.get?_push_of_some _ eb)) ?_ fun a ha => ?_
    · rw [List.mem_singleton.mp hb] at eb
      exact absurd (Heap.lt_size eb) (Nat.lt_irrefl _)
    · rw [numAt_eq]; exact PySem.getD_mem (by rw [List.length_map, Array.length_toList]; omega)
    · obtain ⟨j, hj, rfl⟩ := mem_getD ha
      rw [List.length_map, Array.length_toList] at hj
      rw [← numAt_eq]; exact h2 j (by omega)
def rMinT (K : PySem.W.Frag) : List V → Hp → VK → Prop := fun vs H Q => ∃ (a : Addr) (ns : List Int), vs = [V.ref a] ∧ SqT K H a (ns.map V.int) ∧ 0 < ns.length ∧ ∀ m, m ∈ ns → (∀ y, y ∈ ns → m ≤ y) → Q (.int m) H
theorem cr_minT (K : PySem.W.Frag) {X : Cx} (hc : X.calm = true) (hK : X.K = K := by rfl) : CallR X (.builtin "min") (rMinT K) := by
  subst hK
  intro pins s σ H vs us Q I r h
  obtain ⟨a, ns, rfl, hs, hne, q⟩ := h
  obtain ⟨its, rv, hl, _⟩ := I.tuple hs
  rw [Vals.ref1 r]
  exact min_tup (I.ok.hd hc) hl rv.ints hne fun h' tk m t' hk h1 h2 => ⟨.int _, H, I.kept hk, ⟨_, rfl⟩, q m h1 h2⟩
theorem max_tup {prog : Program} {w : World} {A : Around} {E : Value → Shared → Prop} {s : Shared} {l : Addr} {its : List Value} {ns : List Int} {Q : Value → Shared → Prop} (hh : A.handled = none) (hl : s.heap.IsTuple l its.toArray) (hi : IntsAre its ns) (hne : 0 < ns.length)
    (h : ∀ h' tk M t', (∀ b o, s.heap.get? b = some o → h'.get? b = some o) → M ∈ ns → (∀ a, a ∈ ns → a ≤ M) → Q (.int M t') { s with heap := h', toks := tk }) : wpAny (model prog w) A (call (.builtin "max") [.ref l]) Q E s := by
  obtain ⟨xs, e⟩ := hi.allInts.items
  have hn : numsOf (intItems xs).toList = ns := by rw [← e]; exact hi.numsOf
  rw [nums_intItems] at hn
  subst hn
  rw [e] at hl
  have hsz : 0 < xs.size := by simpa using hne
  have lt : l < s.heap.objs.size := by obtain ⟨_, o, _⟩ := hl; exact Heap.lt_size o
  refine call_max_walk (wpAny_pyIter_tuple hl ?_)
  have hlI : l ≠ s.heap.objs.size := Nat.ne_of_lt lt
  refine ⟨_, _, _, _, _, _, _, rfl, Walks.tuple (A := A.in1) hh s.heap.objs.size l hlI (intItems xs), ⟨⟨_, Heap.get?_push_size _ rfl, rfl, rfl⟩, hl.at fun o e => Heap.get?_push_of_some _ e⟩, fun b hb => ?_, by simpa [intItems] using hsz, CmpOf.ints_gt (numAt xs) (fun _ _ => intItems_at), fun v h' tk hP hk => ?_⟩
  · show b < (s.heap.push _).objs.size
    rw [Heap.size_push]
    rcases List.mem_cons.mp hb with q | q
    · rw [q]; exact Nat.lt_succ_self _
    · rw [List.mem_singleton.mp q]; exact Nat.lt_succ_of_lt lt
  · have hP' : (intItems xs)[argBest (fun i j => decide (numAt xs i > numAt xs j)) (xs.size - 1)]? = some v := by simpa [intItems] using hP
    obtain ⟨t, rfl⟩ := intItems_at hP'
    obtain ⟨h1, h2⟩ := argBest_gt (numAt xs) (xs.size - 1)
    refine h h' tk _ t (fun b o eb => hk b o (fun hb => ?_) (Heap.get?_push_of_some _ eb)) ?_ fun a ha => ?_
    · rw [List.mem_singleton.mp hb] at eb
      exact absurd (Heap.lt_size eb) (Nat.lt_irrefl _)
    · rw [numAt_eq]; exact PySem.getD_mem (by rw [List.length_map, Array.length_toList]; omega)
    · obtain ⟨j, hj, rfl⟩ := mem_getD ha
      rw [List.length_map, Array.length_toList] at hj
      rw [← numAt_eq]; exact h2 j (by omega)
def rMaxT (K : PySem.W.Frag) : List V → Hp → VK → Prop := fun vs H Q => ∃ (a : Addr) (ns : List Int), vs = [V.ref a] ∧ SqT K H a (ns.map V.int) ∧ 0 < ns.length ∧ ∀ m, m ∈ ns → (∀ y, y ∈ ns → y ≤ m) → Q (.int m) H
theorem cr_maxT (K : PySem.W.Frag) {X : Cx} (hc : X.calm = true) (hK : X.K = K := by rfl) : CallR X (.builtin "max") (rMaxT K) := by
  subst hK
  intro pins s σ H vs us Q I r h
  obtain ⟨a, ns, rfl, hs, hne, q⟩ := h
  obtain ⟨its, rv, hl, _⟩ := I.tuple hs
  rw [Vals.ref1 r]
  exact max_tup (I.ok.hd hc) hl rv.ints hne fun h' tk m t' hk h1 h2 => ⟨.int _, H, I.kept hk, ⟨_, rfl⟩, q m h1 h2⟩
theorem pa_starK (K : PySem.W.Frag) {X : Cx} {e : Expr} {es : List Expr} {te : TE} {t : TA} {p : Pos} (he : PE X e te) (hr : PA X es t) (hs : starEach (.Starred e p :: es) X.env = (true, eval e X.env) :: starEach es X.env := by rfl) (hK : X.K = K := by rfl) : PA X (.Starred e p :: es) (StX.tStar K te t) := hK ▸ StX.pa_star he hr hs
/-! ### enumerate of a tuple -/
set_option maxHeartbeats 1000000 in
theorem meets_enumerate_newT (l : Addr) (items : Array Value) :
    Meets (Builtin.«enumerate.__new__» ⟨[.type "enumerate", .ref l], []⟩) (fun _ R s => s.heap.IsTuple l items ∧
      R (.ok (.ret (.ref (s.heap.push (itO l)).objs.size))) { s with heap := (s.heap.push (itO l)).push { cls := .type "enumerate", data := .fields #[.none, .bool false, .ref s.heap.objs.size, rawInt 0, .none, .none] } }) :=
  .of_wp fun prog w A R s h => by
    obtain ⟨hp, g, d, tk, os⟩ := s
    obtain ⟨h1, h⟩ := h
    have hsub := sub_enumerate
    have q1 : ∀ {A' : Around} {E : Value → Shared → Prop} {Q : Value → Shared → Prop}, Q (.ref hp.objs.size) ⟨(hp.push (itO l)), g, d, tk, os⟩ → wpAny (model prog w) A' (pyIter (.ref l)) Q E ⟨hp, g, d, tk, os⟩ :=
      fun q => wpAny_pyIter_tuple (s := ⟨hp, g, d, tk, os⟩) h1 q
    wp_walk
    refine wpAny_stack_any fun st => wpAny_pure ?_
    split
    · rename_i c _ _ _ _ _
      cases (c == Value.type "enumerate")
      · wp_walk using q1
        exact ⟨_, rfl, h⟩
      · wp_walk using q1
        exact ⟨_, rfl, h⟩
    · wp_walk using q1
      exact ⟨_, rfl, h⟩
theorem call_enumerate_tup {prog : Program} {w : World} {A : Around} {E : Value → Shared → Prop} {s : Shared} {l : Addr} {items : Array Value} {Q : Value → Shared → Prop} (hL : s.heap.IsTuple l items)
    (h : ∀ h', IsEnum h' (s.heap.objs.size + 1) s.heap.objs.size 0 .none → h'.IsTupleIter s.heap.objs.size l 0 → h'.objs.size = s.heap.objs.size + 2 →
      (∀ b o, s.heap.get? b = some o → h'.get? b = some o) → Q (.ref (s.heap.objs.size + 1)) { s with heap := h' }) :
    wpAny (model prog w) A (call (.type "enumerate") [.ref l]) Q E s := by
  refine callType_new F.called_enumerate (by decide) (F.typeCall_enumerate_1 _) (F.newCall_enumerate_1 _) (fun obj => F.args_object_init_2 obj _) F.entry_enumerate_new (meets_enumerate_newT l items) ⟨hL, ?_⟩
  have hz : (s.heap.push (itO l)).objs.size = s.heap.objs.size + 1 := Heap.size_push ..
  show _ ∧ _
  rw [hz]
  have he : IsEnum ((s.heap.push (itO l)).push { cls := .type "enumerate", data := .fields #[.none, .bool false, .ref s.heap.objs.size, rawInt 0, .none, .none] }) (s.heap.objs.size + 1) s.heap.objs.size 0 .none := by
    have := Heap.get?_push_size (s.heap.push (itO l)) (o := { cls := .type "enumerate", data := .fields #[.none, .bool false, .ref s.heap.objs.size, rawInt 0, .none, .none] }) rfl
    rw [hz] at this; exact this
  exact ⟨⟨_, he, rfl⟩, h _ he ⟨_, Heap.get?_push_of_some _ (Heap.get?_push_size _ rfl), rfl, rfl⟩ (by rw [Heap.size_push, hz]) fun b o x => Heap.get?_push_of_some _ (Heap.get?_push_of_some _ x)⟩
def IteT (K : PySem.W.Frag) (a : Addr) : It :=
  ⟨fun i H => ∃ (xs : List V) (x : V), SqT K H a xs ∧ xs[i]? = some x, fun i H v H' => ∃ T x, v = .ref T ∧ H T = none ∧ H' = upd H T (.tup [.int (i : Nat), x]) ∧ ∀ xs, SqT K H a xs → xs[i]? = some x, fun i H => ∃ xs : List V, SqT K H a xs ∧ xs.length = i⟩
theorem ne_itE {h : Heap} {t it l : Addr} {items : Array Value} {i : Nat} (p : h.IsTuple t items) (q : h.IsTupleIter it l i) : t ≠ it := fun e => by
  obtain ⟨o, ho, hcl, _⟩ := p
  obtain ⟨o', ho', hcl', _⟩ := q
  rw [e, ho'] at ho
  have eo := Option.some.inj ho
  rw [eo, hcl] at hcl'
  exact absurd (Value.type.inj hcl') (by decide)
theorem turn_enumT {P : Program} {w : World} {K : PySem.W.Frag} {elts : List Expr} {kk : Nat} {tpos : Pos} {a e it : Addr} (hea : e ≠ a) (hne : e ≠ it) :
    Turn P w K (.Tuple elts kk tpos) (IteT K a) [e, it] e (fun i h => (∃ old, IsEnum h e it ((i : Nat) : Int) old) ∧ h.IsTupleIter it a i) := by
  refine ⟨by simp, fun i h st b hb => ?_, fun i h h' st k => ?_, ?_, ?_, fun A i s Q E st h => ?_⟩
  · obtain ⟨⟨old, he⟩, ⟨o, ho, hc, hd⟩⟩ := st
    have e' : b = e ∨ b = it := by simpa using hb
    rcases e' with z | z
    · rw [z]; exact ⟨_, he, fun v q => nomatch q⟩
    · rw [z]; exact ⟨o, ho, fun v q => by rw [hd] at q; cases q⟩
  · obtain ⟨⟨old, he⟩, hi⟩ := st
    exact ⟨⟨old, k e (by simp) _ he⟩, hi.at fun o q => k it (by simp) o q⟩
  · intro X hP hw hK hc i pins s σ H E I hf st hg
    subst hP hw hK
    obtain ⟨⟨old, he⟩, hit⟩ := st
    obtain ⟨xs, x, hq, hx⟩ := hg
    obtain ⟨its, rv, p, hz⟩ := I.tuple hq
    obtain ⟨u, hu, ru⟩ := rv.get hx
    have hel : e < s.heap.objs.size := Heap.lt_size he
    have hil : it < s.heap.objs.size := by obtain ⟨_, q, _⟩ := hit; exact Heap.lt_size q
    have na : a ≠ it := ne_itE p hit
    have k1 : i < its.toArray.size := by have := (List.getElem?_eq_some_iff.mp hu).1; simpa using this
    have nf : e ∉ [it, a] := fun m => by
      rcases List.mem_cons.mp m with z | z
      · exact hne z
      · exact hea (List.mem_singleton.mp z)
    refine wpAny_pyNext_enum_itemD (Draws.tuple (A := X.A.in1) (I.ok.hd hc) it a na its.toArray) he ⟨hit, p⟩ k1 hne nf fun v h' tk hv ho hit' hT hsz hk => ?_
    have w1 : v = u := Option.some.inj (hv.symm.trans (by simpa using hu))
    subst w1
    refine ⟨_, rfl, wpAny_letOwnedTupleGo_enum (s := { s with heap := h', toks := tk + 1 }) ho fun h'' he' sb => ?_⟩
    have hT2 : h''.get? s.heap.objs.size = some { cls := .type "tuple", data := .seq #[.int i tk, v] } := (sb.2 _ (Nat.ne_of_gt hel)).trans hT
    have new : ObjOk X.prog X.w (upd H s.heap.objs.size (.tup [.int (i : Nat), x])) h'' s.heap.objs.size (.tup [.int (i : Nat), x]) :=
      ⟨by show 2 ≤ sizeLine; decide, [.int i tk, v], .cons ⟨_, rfl⟩ (.cons ru .nil), ⟨_, hT2, rfl, _, rfl⟩⟩
    have I1 : Inv X pins σ (upd H s.heap.objs.size (.tup [.int (i : Nat), x])) { s with heap := h'', toks := tk + 1 } :=
      I.turnedNew (ch := [e, it]) (fun b ob hb q => (sb.2 b (fun z => hb (by simp [z]))).trans (hk b ob (fun z => hb (by simp [z])) (fun z => hb (by simp [z])) q)) hf (Nat.le_refl _) new
    refine ⟨.ref s.heap.objs.size, _, I1, rfl, ⟨_, x, rfl, I.hok.fresh (Nat.le_refl _), rfl, fun ys hy => by rw [I.tuple_inj hy hq]; exact hx⟩, ⟨⟨v, ?_⟩, hit'.1.at fun o q => (sb.2 it (Ne.symm hne)).trans q⟩, fun b hb => ?_⟩
    · have e1 : ((i + 1 : Nat) : Int) = (i : Int) + 1 := by omega
      rw [e1]; exact he'
    · have hb' : b < s.heap.objs.size := by
        have e' : b = e ∨ b = it := by simpa using hb
        rcases e' with z | z
        · rw [z]; exact hel
        · rw [z]; exact hil
      rw [upd_ne (Nat.ne_of_lt hb')]
      exact (hf b hb).1
  · intro X hP hw hK hc i pins s σ H E I hf st hg
    subst hP hw hK
    obtain ⟨⟨old, he⟩, hit⟩ := st
    obtain ⟨xs, hq, hx⟩ := hg
    obtain ⟨its, rv, p, hz⟩ := I.tuple hq
    have na : a ≠ it := ne_itE p hit
    obtain ⟨f0, f1, f2, f3, f4, f5⟩ := hf it (by simp)
    have hl := rv.length
    have ei : its.toArray.size = i := by simp; omega
    exact wpAny_pyNext_enum_endD (Draws.tuple (A := X.A.in1) (I.ok.hd hc) it a na its.toArray) he (by rw [ei]; exact ⟨hit, p⟩) fun h' eb => ⟨rfl, I.turned (t' := s.toks) (fun b o hb q => eb b o hb q) f0 f1 f3 f4 f5⟩
  · obtain ⟨⟨_, he⟩, _⟩ := st
    exact wpAny_pyIter_enum he h
def iEnumT (K : PySem.W.Frag) (ta : TA) : TI := fun σ H R => ta σ H fun vs H1 => ∃ a xs, vs = [.ref a] ∧ SqT K H1 a xs ∧ R (IteT K a) H1
theorem pi_enumT (K : PySem.W.Frag) {X : Cx} {e : Expr} {ta : TA} {p pos tpos : Pos} {elts : List Expr} {kk : Nat} (hg : Gl X "enumerate") (hm : X.mg "enumerate" = none) (ha : PA X [e] ta) (hs : starEach [e] X.env = [(false, eval e X.env)] := by rfl) (hK : X.K = K := by rfl) :
    PI X (.Tuple elts kk tpos) (.Call (.Name "enumerate" p) [e] [] pos) (iEnumT K ta) := by
  subst hK
  refine ⟨fun pins s σ H R I h => ?_⟩
  refine Call_ (ld_blt I hg hm PyProof.Rows.boot_enumerate (PyProof.Rows.callWith_type1 (thn (ha.run pos pins s σ H _ I h) fun us s1 ⟨vs, H1, I1, r1, q1⟩ => ?_) hs rfl))
  obtain ⟨a, xs, ex, hq, q⟩ := q1
  subst ex
  cases r1 with
  | cons r rr =>
    cases rr
    cases r
    obtain ⟨its, rv, p', hz⟩ := I1.tuple hq
    have la : a < s1.heap.objs.size := by obtain ⟨_, o, _⟩ := p'; exact Heap.lt_size o
    refine call_enumerate_tup (show s1.heap.IsTuple a its.toArray from p') fun h' he hit hsz hk => wpAny_pyIter_enum he ?_
    have I2 : Inv X pins σ H1 { s1 with heap := h' } := I1.kept (t' := s1.toks) hk
    refine ⟨s1.heap.objs.size + 1, [s1.heap.objs.size + 1, s1.heap.objs.size], _, _, H1, rfl, I2, turn_enumT (a := a) (e := s1.heap.objs.size + 1) (it := s1.heap.objs.size) (Nat.ne_of_gt (Nat.lt_succ_of_lt la)) (Nat.succ_ne_self _), ⟨⟨.none, he⟩, hit⟩, fun b hb => ?_, q⟩
    have e' : b = s1.heap.objs.size + 1 ∨ b = s1.heap.objs.size := by simpa using hb
    have hle : s1.heap.objs.size ≤ b := by
      rcases e' with z | z
      · rw [z]; exact Nat.le_add_right _ _
      · rw [z]; exact Nat.le_refl _
    exact I1.fpOk hle (I1.hok.fresh hle)
theorem walk_enumT {K : PySem.W.Frag} {a : Addr} {xs : List V} : Walk (IteT K a) xs.length (fun H => SqT K H a xs) (YPair (fun i => some (.int (i : Nat))) (fun i => xs[i]?)) := by
  refine ⟨fun i H hi q => ⟨xs, xs[i], q, by simp⟩, fun H q => ⟨xs, q, rfl⟩, fun i H v H' _ q y => ?_⟩
  obtain ⟨T, x, e1, e2, e3, e4⟩ := y
  exact ⟨T, _, x, e1, e2, e3, rfl, e4 xs q⟩
end Z

set_option Elab.async false
set_option linter.all false
set_option maxRecDepth 100000
namespace Z
open PySem PySem.Spec PyProof.Rows L2
variable [TabCtx]
/-! ### list(zip(..)) of tuples of one length -/
theorem zip_no_len : typeLookup (.type "zip") "__len__" = pure none := by rw [typeLookup_type, builtinLookup_eq_fast]; kernel_rfl
theorem zip_no_hint : typeLookup (.type "zip") "__length_hint__" = pure none := by rw [typeLookup_type, builtinLookup_eq_fast]; kernel_rfl
theorem ZAt.keep {N : Nat} {as : List Addr} {i : Nat} {h h' : Heap} (Z : ZAt N as i h) (k : ∀ c o, N ≤ c → c ≤ N + as.length + 2 → h.get? c = some o → h'.get? c = some o) : ZAt N as i h' := by
  obtain ⟨vs, f0, f1, Z, hf⟩ := Z
  exact ⟨vs, f0, f1, Z.keep k, hf⟩
structure Laid (yss : Nat → List Value) (S : Addr) (Ts : List Addr) (h : Heap) : Prop where
  t : ∀ (j : Nat) (T : Addr), Ts[j]? = some T → h.get? T = some (tupO (yss j)) ∧ S < T
  n : Ts.Nodup
section
variable {prog : Program} {w : World} {A : Around}
theorem extend_zipN {N W : Nat} {as : List Addr} {yss : Nat → List Value} {S : Addr} {res : Value} {R : Result → Shared → Prop} (hh : A.handled = none) (n0 : 0 < as.length) (nz : as.length ≤ sizeLine) (hW : W ≤ 100000) (ly : ∀ i, i < W → (yss i).length = as.length) (hS : N + as.length + 2 < S) :
    ∀ (k i : Nat) (s : Shared) (Ts : List Addr) (c : Nat), W - i = k → i ≤ W → ZAt N as i s.heap → s.heap.get? S = some { cls := .type "list", dict := none, data := .seq (Ts.map Value.ref).toArray c, slots := #[] } → Ts.length = i → Laid yss S Ts s.heap →
    (∀ (j : Nat) (a : Addr), as[j]? = some a → a < N ∧ ∃ items : Array Value, s.heap.IsTuple a items ∧ items.size = W ∧ ∀ i, i < W → items[i]? = (yss i)[j]?) →
    (∀ h' Ts' c', (∀ b o, Out N as.length b → b ≠ S → s.heap.get? b = some o → h'.get? b = some o) → h'.get? S = some { cls := .type "list", dict := none, data := .seq (Ts'.map Value.ref).toArray c', slots := #[] } → Ts'.length = W → Laid yss S Ts' h' → R (.ok (.ret res)) { s with heap := h' }) →
    codeAny (model prog w) A (.builtin "list.extend.loop" ⟨[.ref S, .ref (N + as.length + 2), res], []⟩) R s := by
  intro k
  induction k with
  | zero =>
    intro i s Ts c hk hi Z eS lT lay ha hR
    have hin : i = W := by omega
    subst hin
    refine codeAny_builtin F.entry_extend_loop ?_
    rw [Around.under_plainId F.plain_extend_loop _]
    show wpAny _ A.in1 (pyNext (.ref (N + as.length + 2)) >>= _) _ _ s
    obtain ⟨aN, items, hit, hz, _⟩ := ha 0 as[0] (List.getElem?_eq_getElem n0)
    refine wpAny_bind (pyNext_zipN_end hh Z (List.getElem?_eq_getElem n0) aN hit (by rw [Array.getElem?_eq_none_iff]; omega) fun h' hk => ?_)
    refine wpAny_pure (hR h' Ts c (fun b o hb _ e => hk b o hb e) (hk S _ (.inr hS) eS) lT ⟨fun j T hT => ⟨hk T _ (.inr (Nat.lt_trans hS (lay.t j T hT).2)) (lay.t j T hT).1, (lay.t j T hT).2⟩, lay.n⟩)
  | succ k ih =>
    intro i s Ts c hk hi Z eS lT lay ha hR
    have hlt : i < W := by omega
    refine codeAny_builtin F.entry_extend_loop ?_
    rw [Around.under_plainId F.plain_extend_loop _]
    show wpAny _ A.in1 (pyNext (.ref (N + as.length + 2)) >>= _) _ _ s
    refine wpAny_bind (pyNext_zipN_item Z n0 nz (ly i hlt) (fun j a e => ?_) fun h' Z' hT hsz hk' => ?_)
    · obtain ⟨aN, items, hit, _, hx⟩ := ha j a e
      exact ⟨aN, items, hit, hx i hlt⟩
    have oS : Out N as.length S := .inr hS
    have eS' := hk' S _ oS eS
    have lS : S < s.heap.objs.size := Heap.lt_size eS
    have lz : (Ts.map Value.ref).toArray.size ≤ sizeLine := by simp only [List.size_toArray, List.length_map]; rw [sizeLine_eq]; omega
    show wpAny _ A.in1 (updateSeq S (·.push (.ref s.heap.objs.size)) >>= _) _ _ _
    refine wpAny_bind ?_
    have up : ∀ b o, b ≠ S → h'.get? b = some o → (h'.update S (Obj.mapSeq fun x => x.push (.ref s.heap.objs.size))).get? b = some o := fun b o hb e => (Heap.get?_update_other _ _ (Ne.symm hb)).trans e
    have eS2 := Heap.get?_update_self (Obj.mapSeq fun x => x.push (Value.ref s.heap.objs.size)) eS' rfl
    have TS : ∀ T, S < T → T ≠ S := fun T h => Nat.ne_of_gt h
    obtain ⟨c2, eS3⟩ : ∃ c2, (h'.update S (Obj.mapSeq fun x => x.push (Value.ref s.heap.objs.size))).get? S = some { cls := .type "list", dict := none, data := .seq ((Ts ++ [s.heap.objs.size]).map Value.ref).toArray c2, slots := #[] } := by
      rw [eS2]
      unfold Obj.mapSeq
      simp only [List.push_toArray, List.map_append, List.map_cons, List.map_nil]
      exact ⟨_, rfl⟩
    refine wpAny_updateSeq (s := { s with heap := h' }) eS' rfl (wpAny_pure ⟨plainId_quiet F.plain_extend_loop _, ih (i + 1) _ (Ts ++ [s.heap.objs.size]) c2 (by omega) hlt (Z'.keep fun c o h1 h2 e => up c o (Nat.ne_of_lt (Nat.lt_of_le_of_lt h2 hS)) e) eS3 (by simp; omega) ⟨fun j T hj => ?_, ?_⟩ (fun j a e => ?_) fun h'' Ts' c' hk'' eS'' lT'' lay'' => ?_⟩) lz (by show (Array.push _ _).size ≤ sizeLine + 1; rw [Array.size_push]; omega)
    · rcases Nat.lt_or_ge j Ts.length with z | z
      · rw [List.getElem?_append_left z] at hj
        have := lay.t j T hj
        exact ⟨up _ _ (TS T this.2) (hk' _ _ (.inr (Nat.lt_trans hS this.2)) this.1), this.2⟩
      · rw [List.getElem?_append_right z] at hj
        have hj0 : j - Ts.length = 0 := by
          rcases Nat.eq_zero_or_pos (j - Ts.length) with y | y
          · exact y
          · rw [List.getElem?_eq_none (by simp; omega)] at hj
            cases hj
        rw [hj0] at hj
        have eT : s.heap.objs.size = T := Option.some.inj hj
        have ej : j = i := by omega
        subst eT ej
        exact ⟨up _ _ (TS _ lS) hT, lS⟩
    · rw [List.nodup_append]
      refine ⟨lay.n, by simp, fun a h1 b h2 e => ?_⟩
      obtain ⟨j, hj, rfl⟩ := List.mem_iff_getElem.mp h1
      have := (lay.t j _ (List.getElem?_eq_getElem hj)).1
      rw [List.mem_singleton.mp h2] at e
      exact absurd (Heap.lt_size this) (by rw [e]; exact Nat.lt_irrefl _)
    · obtain ⟨aN, items, hit, h2, h3⟩ := ha j a e
      have a1 : a ≠ S := Nat.ne_of_lt (Nat.lt_trans aN (by omega))
      exact ⟨aN, items, hit.at fun o q => up _ _ a1 (hk' _ _ (.inl aN) q), h2, h3⟩
    · exact hR h'' Ts' c' (fun b o hb hbS e => hk'' b o hb hbS (up b o hbS (hk' b o hb e))) eS'' lT'' lay''
theorem call_list_zipN {E : Value → Shared → Prop} {s : Shared} {N W : Nat} {as : List Addr} {yss : Nat → List Value} {Q : Value → Shared → Prop} (hh : A.handled = none) (n0 : 0 < as.length) (nz : as.length ≤ sizeLine) (hW : W ≤ 100000) (ly : ∀ i, i < W → (yss i).length = as.length) (Z : ZAt N as 0 s.heap)
    (ha : ∀ (j : Nat) (a : Addr), as[j]? = some a → a < N ∧ ∃ items : Array Value, s.heap.IsTuple a items ∧ items.size = W ∧ ∀ i, i < W → items[i]? = (yss i)[j]?)
    (hQ : ∀ h' Ts c, (∀ b o, Out N as.length b → s.heap.get? b = some o → h'.get? b = some o) → h'.get? s.heap.objs.size = some { cls := .type "list", dict := none, data := .seq (Ts.map Value.ref).toArray c, slots := #[] } → Ts.length = W → Laid yss s.heap.objs.size Ts h' → Q (.ref s.heap.objs.size) { s with heap := h' }) :
    wpAny (model prog w) A (call (.type "list") [.ref (N + as.length + 2)]) Q E s := by
  have lzz : N + as.length + 2 < s.heap.objs.size := by obtain ⟨_, _, _, Z, _⟩ := Z; exact Heap.lt_size Z.z
  refine callType_codes (Q₁ := fun obj s₁ => obj = .ref s.heap.objs.size ∧ s₁ = { s with heap := s.heap.push { cls := .type "list", data := .seq #[] } }) F.called_list (F.typeCall_list_1 _) F.entry_list_init
    (code_list_new _ ⟨rfl, rfl⟩) fun obj s₁ h₁ => ?_
  obtain ⟨rfl, rfl⟩ := h₁
  have hS : (s.heap.push { cls := .type "list", data := .seq #[] }).get? s.heap.objs.size = some { cls := .type "list", data := .seq #[] } := Heap.get?_push_size _ rfl
  refine ⟨⟨_, hS, rfl⟩, F.args_list_init_2 _ _, ?_⟩
  generalize hSS : s.heap.objs.size = S at *
  have up0 : ∀ b o, s.heap.get? b = some o → (s.heap.push { cls := .type "list", data := .seq #[] }).get? b = some o := fun b o e => Heap.get?_push_of_some _ e
  have old : ∀ b o, s.heap.get? b = some o → b ≠ S := fun b o e => by rw [← hSS]; exact Nat.ne_of_lt (Heap.lt_size e)
  generalize s.heap.push { cls := .type "list", data := .seq #[] } = h1 at *
  show wpAny _ A.in1.in1 (do let old ← Builtin.List.listItems (.ref S); Builtin.List.listUpdate (.ref S) (fun _ => #[]); letGo old.toList.reverse; Builtin.List.listExtendWith (.ref S) (.ref (N + as.length + 2)) .none) _ _ _
  refine wpAny_bind ?_
  unfold Builtin.List.listItems
  refine wpAny_bind (wpAny_seqItems (s := { s with heap := h1 }) hS rfl (wpAny_pure ?_))
  show wpAny _ A.in1.in1 (updateSeq S (fun _ => #[]) >>= fun _ => letGo (#[] : Array Value).toList.reverse >>= fun _ => Builtin.List.listExtendWith (.ref S) (.ref (N + as.length + 2)) .none) _ _ _
  refine wpAny_bind (wpAny_updateSeq (s := { s with heap := h1 }) hS rfl ?_)
  have hS2 := Heap.get?_update_self (Obj.mapSeq (fun _ => (#[] : Array Value))) hS rfl
  have up2 : ∀ b o, b ≠ S → h1.get? b = some o → (h1.update S (Obj.mapSeq (fun _ => (#[] : Array Value)))).get? b = some o := fun b o hb e => (Heap.get?_update_other _ _ (Ne.symm hb)).trans e
  refine wpAny_bind (wpAny_letGo ?_)
  have up3 : ∀ b o, s.heap.get? b = some o → (h1.update S (Obj.mapSeq (fun _ => (#[] : Array Value)))).get? b = some o := fun b o e => up2 b o (old b o e) (up0 b o e)
  generalize hh2 : h1.update S (Obj.mapSeq (fun _ => (#[] : Array Value))) = h2 at *
  have Z2 : ZAt N as 0 h2 := Z.keep fun c o _ _ e => up3 c o e
  have hT : Shared.TypeIs { s with heap := h2 } (.ref (N + as.length + 2)) "zip" := by obtain ⟨_, _, _, Z, _⟩ := Z2; exact ⟨_, Z.z, rfl⟩
  have hSI : S ≠ N + as.length + 2 := Nat.ne_of_gt lzz
  unfold Builtin.List.listExtendWith
  refine wpAny_bind (wpAny_typeOf hT ?_)
  have b1 : Builtin.List.listSameRef (.ref S) (.ref (N + as.length + 2)) = false := by simp [Builtin.List.listSameRef, hSI]
  have b2 : (Value.type "zip" == Value.type "list") = false := by decide
  have b3 : (Value.type "zip" == Value.type "tuple") = false := by decide
  simp only [b1, b2, b3, Bool.or_false, Bool.false_eq_true, if_false]
  obtain ⟨vs0, g0, g1, ZZ, _⟩ := id Z2
  refine wpAny_bind (pyIter_zipX (s := { s with heap := h2 }) ZZ.z ?_)
  refine wpAny_bind (wpAny_holding ?_)
  unfold Builtin.List.listLengthHint
  refine wpAny_bind (wpAny_specialOf hT zip_no_len ?_)
  show wpAny _ A.in1.in1 (specialOf (Value.ref (N + as.length + 2)) (Str.ofString "__length_hint__") >>= _) _ _ _
  refine wpAny_bind (wpAny_specialOf hT zip_no_hint ?_)
  refine wpAny_pure ?_
  show wpAny _ A.in1.in1 (rule "list.extend.makes-room" >>= fun _ => Builtin.List.listTouch (.ref S) >>= fun _ =>
    again (.builtin "list.extend.loop" ⟨[.ref S, .ref (N + as.length + 2), .none], []⟩)) _ _ _
  refine wpAny_bind (wpAny_rule ?_)
  refine wpAny_bind ?_
  show wpAny _ A.in1.in1 (updateSeq S (·.push .none) >>= fun _ => updateSeq S (·.pop)) _ _ _
  refine wpAny_bind (wpAny_updateSeq (s := { s with heap := h2 }) hS2 rfl ?_ (by seq_fits) (by seq_fits))
  have hS3 := Heap.get?_update_self (Obj.mapSeq (·.push Value.none)) hS2 rfl
  refine wpAny_updateSeq (hz := by seq_fits) hS3 rfl ?_
  have hS4 := Heap.get?_update_self (Obj.mapSeq (·.pop)) hS3 rfl
  have up4 : ∀ b o, b ≠ S → h2.get? b = some o → ((h2.update S (Obj.mapSeq (·.push Value.none))).update S (Obj.mapSeq (·.pop))).get? b = some o :=
    fun b o hb e => (Heap.get?_update_other _ _ (Ne.symm hb)).trans ((Heap.get?_update_other _ _ (Ne.symm hb)).trans e)
  refine wpAny_pure ⟨plainId_quiet F.plain_extend_loop _, extend_zipN (N := N) (as := as) (W := W) (yss := yss) (S := S) (A := A.in1) hh n0 nz hW ly lzz W 0 _ [] _ rfl (Nat.zero_le _) (Z2.keep fun c o h1 h2 e => up4 c o (Nat.ne_of_lt (Nat.lt_of_le_of_lt h2 lzz)) e) hS4 rfl ⟨fun j T e => by simp at e, List.nodup_nil⟩ (fun j a e => ?_) fun h' Ts c' hk' eS' lT lay => ?_⟩
  · obtain ⟨aN, items, hit, q2, q3⟩ := ha j a e
    exact ⟨aN, items, hit.at fun o q => up4 _ _ (old _ _ q) (up3 _ _ q), q2, q3⟩
  · exact ⟨rfl, hQ h' Ts c' (fun b o hb e => hk' b o hb (old b o e) (up4 b o (old b o e) (up3 b o e))) eS' lT lay⟩
end
theorem tup_inj {h : Heap} {a : Addr} {x y : Array Value} (h1 : h.IsTuple a x) (h2 : h.IsTuple a y) : x = y := by
  obtain ⟨o, e1, _, n, d1⟩ := h1
  obtain ⟨o', e2, _, n', d2⟩ := h2
  have eo : o = o' := Option.some.inj (e1.symm.trans e2)
  subst eo
  rw [d1] at d2
  cases d2
  rfl
def rowV (xss : List (List V)) (i : Nat) : List V := xss.map fun xs => xs.getD i .non
def tListZ (K : PySem.W.Frag) (ta : TA) : TE := fun σ H Q => ta σ H fun vs H1 => ∃ (as : List Addr) (xss : List (List V)) (W : Nat), vs = as.map V.ref ∧ 0 < as.length ∧ as.length ≤ 1000 ∧ xss.length = as.length ∧ W ≤ 100000 ∧ (∀ (j : Nat) (a : Addr) (xs : List V), as[j]? = some a → xss[j]? = some xs → SqT K H1 a xs ∧ xs.length = W) ∧
  ∀ (H' : Hp) (l : Addr) (ts : List Addr), Same H1 H' → H1 l = none → H' l = some (.lst (ts.map V.ref)) → ts.length = W → (∀ (i : Nat) (t : Addr), ts[i]? = some t → H1 t = none ∧ H' t = some (.tup (rowV xss i))) → Q (.ref l) H'
theorem pe_listZ (K : PySem.W.Frag) {X : Cx} {e : Expr} {es : List Expr} {ta : TA} {p p2 pos pos2 : Pos} (hc : X.calm = true) (hgl : Gl X "list") (hml : X.mg "list" = none) (hgz : Gl X "zip") (hmz : X.mg "zip" = none) (ha : PA X (e :: es) ta)
    (hs : starEach (e :: es) X.env = (false, eval e X.env) :: starEach es X.env := by rfl) (hpl : (backTo pos2 (starEach es X.env)).any (·.1) = false := by rfl)
    (na : starEach [.Call (.Name "zip" p2) (e :: es) [] pos2] X.env = (false, eval (.Call (.Name "zip" p2) (e :: es) [] pos2) X.env) :: starEach [] X.env := by rfl) (hK : X.K = K := by rfl) :
    PE X (.Call (.Name "list" p) [.Call (.Name "zip" p2) (e :: es) [] pos2] [] pos) (tListZ K ta) := by
  subst hK
  refine ⟨fun pins s σ H Q I h => ?_⟩
  refine Call_ (ld_blt I hgl hml PyProof.Rows.boot_list (PyProof.Rows.callWith_type1 (args_cons (Call_ (ld_blt I hgz hmz PyProof.Rows.boot_zip (PyProof.Rows.callWith_type1 (thn (ha.run pos2 pins s σ H _ I h) fun us s1 ⟨vs, H1, I1, r1, as, xss, W, ev, n0, n1, lx, hW, hx, q⟩ => ?_) hs hpl))) na) na))
  subst ev
  have eu := vals_refs r1
  subst eu
  have nz : as.length ≤ sizeLine := by rw [sizeLine_eq]; omega
  have src : ∀ (j : Nat) (a : Addr), as[j]? = some a → ∃ xs, xss[j]? = some xs ∧ SqT X.K H1 a xs ∧ xs.length = W := fun j a e => by
    have hj : j < xss.length := by have := at_len e; omega
    exact ⟨_, List.getElem?_eq_getElem hj, hx j a _ e (List.getElem?_eq_getElem hj)⟩
  have aN : ∀ a ∈ as, a < s1.heap.objs.size := fun a m => by
    obtain ⟨j, hj, rfl⟩ := List.mem_iff_getElem.mp m
    obtain ⟨xs, _, q1, _⟩ := src j _ (List.getElem?_eq_getElem hj)
    obtain ⟨js, _, p1, _⟩ := I1.tuple q1
    obtain ⟨_, o, _⟩ := p1
    exact Heap.lt_size o
  refine call_zipN n0 nz (fun a m => ?_) fun h2 Z hk => args_nil ?_
  · obtain ⟨j, hj, rfl⟩ := List.mem_iff_getElem.mp m
    obtain ⟨xs, _, q1, _⟩ := src j _ (List.getElem?_eq_getElem hj)
    obtain ⟨js, _, p1, _⟩ := I1.tuple q1
    exact ⟨js.toArray, p1⟩
  -- the rows
  have rows : ∀ i, ∃ ys : List Value, i < W → (Vals (rowV xss i) ys ∧ ∀ j u, ys[j]? = some u → ∀ a, as[j]? = some a → ∃ items : Array Value, s1.heap.IsTuple a items ∧ items[i]? = some u) := fun i => by
    by_cases hi : i < W
    · obtain ⟨ys, r, hy⟩ := vals_pick (R := fun j u => ∀ a, as[j]? = some a → ∃ items : Array Value, s1.heap.IsTuple a items ∧ items[i]? = some u) (zs := rowV xss i) fun j z e => by
        unfold rowV at e
        rw [List.getElem?_map] at e
        have hj : j < as.length := by
          rcases Nat.lt_or_ge j as.length with y | y
          · exact y
          · rw [List.getElem?_eq_none (by omega)] at e
            cases e
        obtain ⟨xs, ex, q1, l1⟩ := src j as[j] (List.getElem?_eq_getElem hj)
        rw [ex] at e
        have ez : xs.getD i .non = z := Option.some.inj e
        have ez2 : xs[i]? = some z := by
          rw [List.getElem?_eq_getElem (by omega), ← ez, List.getD_eq_getElem?_getD, List.getElem?_eq_getElem (by omega)]
          rfl
        obtain ⟨js, r2, p1, _⟩ := I1.tuple q1
        obtain ⟨u, f1, m1⟩ := r2.get ez2
        refine ⟨u, m1, fun a ea => ?_⟩
        have : as[j] = a := Option.some.inj ((List.getElem?_eq_getElem hj).symm.trans ea)
        subst this
        exact ⟨js.toArray, p1, by simpa using f1⟩
      exact ⟨ys, fun _ => ⟨r, hy⟩⟩
    · exact ⟨[], fun h => absurd h hi⟩
  obtain ⟨yss, hy⟩ := Classical.skolem.mp rows
  have lr : ∀ i, (rowV xss i).length = as.length := fun i => by unfold rowV; rw [List.length_map, lx]
  have ly : ∀ i, i < W → (yss i).length = as.length := fun i hi => by rw [← lr i]; exact (hy i hi).1.length.symm
  have I2 : Inv X pins σ H1 { s1 with heap := h2 } := I1.kept (t' := s1.toks) hk
  have lz2 : s1.heap.objs.size + as.length + 2 < h2.objs.size := by obtain ⟨_, _, _, Z, _⟩ := Z; exact Heap.lt_size Z.z
  refine call_list_zipN (s := { s1 with heap := h2 }) (yss := yss) (W := W) (I2.ok.hd hc) n0 nz hW ly Z (fun j a ea => ?_) fun h3 Ts c hk3 eS lT lay => ?_
  · obtain ⟨xs, ex, q1, l1⟩ := src j a ea
    obtain ⟨js, r2, p1, _⟩ := I1.tuple q1
    have lj := r2.length
    refine ⟨aN a (List.mem_of_getElem? ea), js.toArray, (show s1.heap.IsTuple a js.toArray from p1).at fun o e => hk _ _ e, by simp; omega, fun i hi => ?_⟩
    have hj : j < (yss i).length := by rw [ly i hi]; exact at_len ea
    obtain ⟨items, h1, h4⟩ := (hy i hi).2 j _ (List.getElem?_eq_getElem hj) a ea
    have : js.toArray = items := tup_inj p1 h1
    rw [this, h4, List.getElem?_eq_getElem hj]
  · have fr : ∀ y, s1.heap.objs.size ≤ y → H1 y = none → FpOk X pins H1 y := fun y hle hn => I1.fpOk hle hn
    have hf : ∀ b ∈ ownN s1.heap.objs.size as.length, FpOk X pins H1 b := fun b hb => by
      obtain ⟨k, hk, rfl⟩ := mem_ownN hb
      exact fr _ (Nat.le_add_right _ _) (I1.hok.fresh (Nat.le_add_right _ _))
    have I3 : Inv X pins σ H1 { s1 with heap := h3 } := Inv.turnedL (s := { s1 with heap := h2 }) (t' := s1.toks) (ch := ownN s1.heap.objs.size as.length) I2 (fun b o nb e => hk3 b o (out_ownN nb) e) hf
    have hS0 : s1.heap.objs.size ≤ h2.objs.size := by omega
    have hnS : H1 h2.objs.size = none := I1.hok.fresh hS0
    have I4 : Inv X pins σ (upd H1 h2.objs.size (.lst (Ts.map V.ref))) { s1 with heap := h3 } := by
      refine I3.take (h' := h3) (t' := s1.toks) (fun b ob _ e => e) (fr _ hS0 hnS) (show ObjOk X.prog X.w _ _ _ (.lst (Ts.map V.ref)) from ⟨?_, Ts.map Value.ref, c, vals_maps V.ref Value.ref Ts fun _ _ => rfl, eS⟩)
      rw [List.length_map, lT, sizeLine_eq]
      omega
    obtain ⟨H5, I5, g5, q5⟩ := L2.DX.takeT (P := fun b vs => ∃ i, Ts[i]? = some b ∧ vs = rowV xss i) I1 Ts _ I4 lay.n fun b hb => by
      obtain ⟨i, hi, rfl⟩ := List.mem_iff_getElem.mp hb
      have ei := List.getElem?_eq_getElem hi
      obtain ⟨l1, l2⟩ := lay.t i _ ei
      have hle : s1.heap.objs.size ≤ Ts[i] := Nat.le_of_lt (Nat.lt_of_le_of_lt hS0 l2)
      refine ⟨hle, ?_, rowV xss i, ⟨i, ei, rfl⟩, fun H6 => ⟨by rw [lr i]; exact nz, yss i, (hy i (by omega)).1, ⟨_, l1, rfl, 0, rfl⟩⟩⟩
      rw [upd_ne (Nat.ne_of_gt l2)]
      exact I1.hok.fresh hle
    refine ⟨.ref h2.objs.size, H5, I5, rfl, q H5 h2.objs.size Ts (fun b o e => g5 b o (by rw [upd_ne (ne_of_none e hnS)]; exact e)) hnS (g5 _ _ upd_same) lT fun i t et => ?_⟩
    obtain ⟨vs, ⟨i', ei', rfl⟩, hH⟩ := q5 t (List.mem_of_getElem? et)
    have eii : i = i' := (List.getElem?_inj (at_len et) lay.n).mp (et.trans ei'.symm)
    subst eii
    exact ⟨I1.hok.fresh (Nat.le_of_lt (Nat.lt_of_le_of_lt hS0 (lay.t i t et).2)), hH⟩
end Z

set_option Elab.async false
set_option linter.all false
set_option maxRecDepth 100000
set_option maxHeartbeats 400000
namespace Z
open PySem PySem.Spec PyProof.Rows L2
variable [TabCtx]
/-! ### list(zip(xs, ys)), of two lists -/
theorem za5 (N l1 l2 : Nat) (h1 : l1 < N) (h2 : l2 < N) : ZipApart (N + 4) (N + 2) (N + 3) N (N + 1) l1 l2 := by
  constructor <;> first | exact Nat.ne_of_lt (by omega) | exact Nat.ne_of_gt (by omega)
structure ZLS (l1 l2 N S : Nat) (xs ys : Array Value) (i : Nat) (h : Heap) : Prop where
  ti : IsPair h (N + 2) (.ref N) (.ref (N + 1))
  a : h.IsListIter N l1 i
  b : h.IsListIter (N + 1) l2 i
  x : h.IsList l1 xs
  y : h.IsList l2 ys
  z : (IsZip h (N + 4) (N + 2) (N + 3) .none ∧ ∃ a b, IsPair h (N + 3) a b) ∨ ∃ (T : Nat) (f : Bool) (oT : Obj), IsZipHeld h (N + 4) (N + 2) (N + 3) T f ∧ h.get? T = some oT ∧ S < T
abbrev KeepZ (N : Nat) (h h' : Heap) : Prop := ∀ c o, c ≠ N + 4 → c ≠ N + 3 → c ≠ N → c ≠ N + 1 → h.get? c = some o → h'.get? c = some o
section
variable {prog : Program} {w : World} {A : Around} {l1 l2 N S : Nat} {xs ys : Array Value}
theorem ZLS.keep {i : Nat} {h h' : Heap} (Z : ZLS l1 l2 N S xs ys i h) (e1 : l1 < N) (e2 : l2 < N) (hS : N + 4 < S) (k : ∀ c o, c ≠ S → h.get? c = some o → h'.get? c = some o) : ZLS l1 l2 N S xs ys i h' where
  ti := k _ _ (Nat.ne_of_lt (by omega)) Z.ti
  a := Z.a.at fun o e => k _ o (Nat.ne_of_lt (by omega)) e
  b := Z.b.at fun o e => k _ o (Nat.ne_of_lt (by omega)) e
  x := Z.x.at fun o e => k _ o (Nat.ne_of_lt (by omega)) e
  y := Z.y.at fun o e => k _ o (Nat.ne_of_lt (by omega)) e
  z := by
    rcases Z.z with ⟨hz, a, b, hTO⟩ | ⟨T, f, oT, hz, hT, r⟩
    · exact .inl ⟨k _ _ (Nat.ne_of_lt (by omega)) hz, a, b, k _ _ (Nat.ne_of_lt (by omega)) hTO⟩
    · exact .inr ⟨T, f, oT, k _ _ (Nat.ne_of_lt (by omega)) hz, k _ _ (Nat.ne_of_gt r) hT, r⟩
theorem next_zls_end {E : Value → Shared → Prop} {s : Shared} {i : Nat} {Q : Option Value → Shared → Prop} (hh : A.handled = none) (Z : ZLS l1 l2 N S xs ys i s.heap) (e1 : l1 < N) (e2 : l2 < N) (hS : N + 4 < S) (he : xs[i]? = none)
    (hQ : ∀ h', KeepZ N s.heap h' → Q none { s with heap := h' }) : wpAny (model prog w) A (pyNext (.ref (N + 4))) Q E s := by
  rcases Z.z with ⟨hz, a, b, hTO⟩ | ⟨T, f, oT, hz, hT, r⟩
  · exact wpAny_pyNext_zip_end hh (za5 N l1 l2 e1 e2) hz Z.ti hTO Z.a Z.b Z.x Z.y (.inl he) fun h' hk => hQ h' fun c o c1 c2 c3 c4 e => hk c o c1 c2 c3 c4 e
  · exact wpAny_pyNext_zip_end_held hh (za5 N l1 l2 e1 e2) hz hT Z.ti Z.a Z.b Z.x Z.y (.inl he) fun h' hk => hQ h' fun c o c1 c2 c3 c4 e => hk c o c1 c3 c4 e
theorem next_zls_item {E : Value → Shared → Prop} {s : Shared} {i : Nat} {x y : Value} {Q : Option Value → Shared → Prop} (Z : ZLS l1 l2 N S xs ys i s.heap) (e1 : l1 < N) (e2 : l2 < N) (hS : N + 4 < S) (lS : S < s.heap.objs.size) (hx : xs[i]? = some x) (hy : ys[i]? = some y)
    (hQ : ∀ h', ZLS l1 l2 N S xs ys (i + 1) h' → IsPair h' s.heap.objs.size x y → h'.objs.size = s.heap.objs.size + 1 → KeepZ N s.heap h' → Q (some (.ref s.heap.objs.size)) { s with heap := h' }) : wpAny (model prog w) A (pyNext (.ref (N + 4))) Q E s := by
  have D := za5 N l1 l2 e1 e2
  rcases Z.z with ⟨hz, a, b, hTO⟩ | ⟨T, f, oT, hz, hT, r⟩
  · refine wpAny_pyNext_zip_item D hz Z.ti hTO Z.a Z.b Z.x Z.y hx hy fun h' a1 a2 a3 a4 a5 a6 hk => hQ h' ⟨hk _ _ D.TIz D.TITO D.TIi1 D.TIi2 Z.ti, a3, a4, Z.x.at fun o e => hk _ o D.l1z D.l1TO D.l1i1 D.l1i2 e, Z.y.at fun o e => hk _ o D.l2z D.l2TO D.l2i1 D.l2i2 e, .inr ⟨s.heap.objs.size, false, _, a1, a5, lS⟩⟩ a5 a6 fun c o c1 c2 c3 c4 e => hk c o c1 c2 c3 c4 e
  · refine wpAny_pyNext_zip_item_held D hz hT Z.ti Z.a Z.b Z.x Z.y hx hy fun h' a1 a3 a4 a5 a6 hk => hQ h' ⟨hk _ _ D.TIz D.TIi1 D.TIi2 Z.ti, a3, a4, Z.x.at fun o e => hk _ o D.l1z D.l1i1 D.l1i2 e, Z.y.at fun o e => hk _ o D.l2z D.l2i1 D.l2i2 e, .inr ⟨T, true, oT, a1, hk _ _ (Nat.ne_of_gt (by omega)) (Nat.ne_of_gt (by omega)) (Nat.ne_of_gt (by omega)) hT, r⟩⟩ a5 a6 fun c o c1 c2 c3 c4 e => hk c o c1 c3 c4 e
theorem extend_zipL {W : Nat} {yss : Nat → List Value} {res : Value} {R : Result → Shared → Prop} (hh : A.handled = none) (e1 : l1 < N) (e2 : l2 < N) (hW : W ≤ 100000) (w1 : xs.size = W) (ly : ∀ i, i < W → ∃ x y, xs[i]? = some x ∧ ys[i]? = some y ∧ yss i = [x, y]) (hS : N + 4 < S) :
    ∀ (k i : Nat) (s : Shared) (Ts : List Addr) (c : Nat), W - i = k → i ≤ W → ZLS l1 l2 N S xs ys i s.heap → s.heap.get? S = some { cls := .type "list", dict := none, data := .seq (Ts.map Value.ref).toArray c, slots := #[] } → Ts.length = i → Laid yss S Ts s.heap →
    (∀ h' Ts' c', (∀ b o, Out N 2 b → b ≠ S → s.heap.get? b = some o → h'.get? b = some o) → h'.get? S = some { cls := .type "list", dict := none, data := .seq (Ts'.map Value.ref).toArray c', slots := #[] } → Ts'.length = W → Laid yss S Ts' h' → R (.ok (.ret res)) { s with heap := h' }) →
    codeAny (model prog w) A (.builtin "list.extend.loop" ⟨[.ref S, .ref (N + 4), res], []⟩) R s := by
  have outK : ∀ {b : Nat}, Out N 2 b → b ≠ N + 4 ∧ b ≠ N + 3 ∧ b ≠ N ∧ b ≠ N + 1 := fun {b} h => by
    have h : b < N ∨ N + 2 + 2 < b := h
    refine ⟨?_, ?_, ?_, ?_⟩ <;> omega
  have outG : ∀ {b : Nat}, S < b → Out N 2 b := fun {b} h => .inr (by show N + 2 + 2 < b; omega)
  have outS : Out N 2 S := .inr (by show N + 2 + 2 < S; omega)
  intro k
  induction k with
  | zero =>
    intro i s Ts c hk hi Z eS lT lay hR
    have hin : i = W := by omega
    subst hin
    refine codeAny_builtin F.entry_extend_loop ?_
    rw [Around.under_plainId F.plain_extend_loop _]
    show wpAny _ A.in1 (pyNext (.ref (N + 4)) >>= _) _ _ s
    refine wpAny_bind (next_zls_end hh Z e1 e2 hS (by rw [Array.getElem?_eq_none_iff]; omega) fun h' hk => ?_)
    have hk' : ∀ b o, Out N 2 b → s.heap.get? b = some o → h'.get? b = some o := fun b o hb e => hk b o (outK hb).1 (outK hb).2.1 (outK hb).2.2.1 (outK hb).2.2.2 e
    refine wpAny_pure (hR h' Ts c (fun b o hb _ e => hk' b o hb e) (hk' S _ outS eS) lT ⟨fun j T hT => ⟨hk' T _ (outG (lay.t j T hT).2) (lay.t j T hT).1, (lay.t j T hT).2⟩, lay.n⟩)
  | succ k ih =>
    intro i s Ts c hk hi Z eS lT lay hR
    have hlt : i < W := by omega
    obtain ⟨x, y, ex, ey, eyy⟩ := ly i hlt
    have lS : S < s.heap.objs.size := Heap.lt_size eS
    refine codeAny_builtin F.entry_extend_loop ?_
    rw [Around.under_plainId F.plain_extend_loop _]
    show wpAny _ A.in1 (pyNext (.ref (N + 4)) >>= _) _ _ s
    refine wpAny_bind (next_zls_item Z e1 e2 hS lS ex ey fun h' Z' hT hsz hkz => ?_)
    have hk' : ∀ b o, Out N 2 b → s.heap.get? b = some o → h'.get? b = some o := fun b o hb e => hkz b o (outK hb).1 (outK hb).2.1 (outK hb).2.2.1 (outK hb).2.2.2 e
    have hT : h'.get? s.heap.objs.size = some (tupO (yss i)) := by rw [eyy]; exact hT
    have eS' := hk' S _ outS eS
    have lz : (Ts.map Value.ref).toArray.size ≤ sizeLine := by simp only [List.size_toArray, List.length_map]; rw [sizeLine_eq]; omega
    show wpAny _ A.in1 (updateSeq S (·.push (.ref s.heap.objs.size)) >>= _) _ _ _
    refine wpAny_bind ?_
    have up : ∀ b o, b ≠ S → h'.get? b = some o → (h'.update S (Obj.mapSeq fun x => x.push (.ref s.heap.objs.size))).get? b = some o := fun b o hb e => (Heap.get?_update_other _ _ (Ne.symm hb)).trans e
    have eS2 := Heap.get?_update_self (Obj.mapSeq fun x => x.push (Value.ref s.heap.objs.size)) eS' rfl
    have TS : ∀ T, S < T → T ≠ S := fun T h => Nat.ne_of_gt h
    obtain ⟨c2, eS3⟩ : ∃ c2, (h'.update S (Obj.mapSeq fun x => x.push (Value.ref s.heap.objs.size))).get? S = some { cls := .type "list", dict := none, data := .seq ((Ts ++ [s.heap.objs.size]).map Value.ref).toArray c2, slots := #[] } := by
      rw [eS2]
      unfold Obj.mapSeq
      simp only [List.push_toArray, List.map_append, List.map_cons, List.map_nil]
      exact ⟨_, rfl⟩
    refine wpAny_updateSeq (s := { s with heap := h' }) eS' rfl (wpAny_pure ⟨plainId_quiet F.plain_extend_loop _, ih (i + 1) _ (Ts ++ [s.heap.objs.size]) c2 (by omega) hlt (Z'.keep e1 e2 hS fun c o h1 e => up c o h1 e) eS3 (by simp; omega) ⟨fun j T hj => ?_, ?_⟩ fun h'' Ts' c' hk'' eS'' lT'' lay'' => ?_⟩) lz (by show (Array.push _ _).size ≤ sizeLine + 1; rw [Array.size_push]; omega)
    · rcases Nat.lt_or_ge j Ts.length with z | z
      · rw [List.getElem?_append_left z] at hj
        have := lay.t j T hj
        exact ⟨up _ _ (TS T this.2) (hk' _ _ (outG this.2) this.1), this.2⟩
      · rw [List.getElem?_append_right z] at hj
        have hj0 : j - Ts.length = 0 := by
          rcases Nat.eq_zero_or_pos (j - Ts.length) with y | y
          · exact y
          · rw [List.getElem?_eq_none (by simp; omega)] at hj
            cases hj
        rw [hj0] at hj
        have eT : s.heap.objs.size = T := Option.some.inj hj
        have ej : j = i := by omega
        subst eT ej
        exact ⟨up _ _ (TS _ lS) hT, lS⟩
    · rw [List.nodup_append]
      refine ⟨lay.n, by simp, fun a h1 b h2 e => ?_⟩
      obtain ⟨j, hj, rfl⟩ := List.mem_iff_getElem.mp h1
      have := (lay.t j _ (List.getElem?_eq_getElem hj)).1
      rw [List.mem_singleton.mp h2] at e
      exact absurd (Heap.lt_size this) (by rw [e]; exact Nat.lt_irrefl _)
    · exact hR h'' Ts' c' (fun b o hb hbS e => hk'' b o hb hbS (up b o hbS (hk' b o hb e))) eS'' lT'' lay''
theorem call_list_zipL {W : Nat} {yss : Nat → List Value} {E : Value → Shared → Prop} {s : Shared} {Q : Value → Shared → Prop} (hh : A.handled = none) (e1 : l1 < N) (e2 : l2 < N) (hW : W ≤ 100000) (w1 : xs.size = W) (ly : ∀ i, i < W → ∃ x y, xs[i]? = some x ∧ ys[i]? = some y ∧ yss i = [x, y]) (lN : N + 4 < s.heap.objs.size) (Z : ZLS l1 l2 N s.heap.objs.size xs ys 0 s.heap) (zz : IsZip s.heap (N + 4) (N + 2) (N + 3) .none)
    (hQ : ∀ h' Ts c, (∀ b o, Out N 2 b → s.heap.get? b = some o → h'.get? b = some o) → h'.get? s.heap.objs.size = some { cls := .type "list", dict := none, data := .seq (Ts.map Value.ref).toArray c, slots := #[] } → Ts.length = W → Laid yss s.heap.objs.size Ts h' → Q (.ref s.heap.objs.size) { s with heap := h' }) :
    wpAny (model prog w) A (call (.type "list") [.ref (N + 4)]) Q E s := by
  refine callType_codes (Q₁ := fun obj s₁ => obj = .ref s.heap.objs.size ∧ s₁ = { s with heap := s.heap.push { cls := .type "list", data := .seq #[] } }) F.called_list (F.typeCall_list_1 _) F.entry_list_init
    (code_list_new _ ⟨rfl, rfl⟩) fun obj s₁ h₁ => ?_
  obtain ⟨rfl, rfl⟩ := h₁
  have hS : (s.heap.push { cls := .type "list", data := .seq #[] }).get? s.heap.objs.size = some { cls := .type "list", data := .seq #[] } := Heap.get?_push_size _ rfl
  refine ⟨⟨_, hS, rfl⟩, F.args_list_init_2 _ _, ?_⟩
  generalize hSS : s.heap.objs.size = S at *
  have up0 : ∀ b o, s.heap.get? b = some o → (s.heap.push { cls := .type "list", data := .seq #[] }).get? b = some o := fun b o e => Heap.get?_push_of_some _ e
  have old : ∀ b o, s.heap.get? b = some o → b ≠ S := fun b o e => by rw [← hSS]; exact Nat.ne_of_lt (Heap.lt_size e)
  generalize s.heap.push { cls := .type "list", data := .seq #[] } = h1 at *
  show wpAny _ A.in1.in1 (do let old ← Builtin.List.listItems (.ref S); Builtin.List.listUpdate (.ref S) (fun _ => #[]); letGo old.toList.reverse; Builtin.List.listExtendWith (.ref S) (.ref (N + 4)) .none) _ _ _
  refine wpAny_bind ?_
  unfold Builtin.List.listItems
  refine wpAny_bind (wpAny_seqItems (s := { s with heap := h1 }) hS rfl (wpAny_pure ?_))
  show wpAny _ A.in1.in1 (updateSeq S (fun _ => #[]) >>= fun _ => letGo (#[] : Array Value).toList.reverse >>= fun _ => Builtin.List.listExtendWith (.ref S) (.ref (N + 4)) .none) _ _ _
  refine wpAny_bind (wpAny_updateSeq (s := { s with heap := h1 }) hS rfl ?_)
  have hS2 := Heap.get?_update_self (Obj.mapSeq (fun _ => (#[] : Array Value))) hS rfl
  have up2 : ∀ b o, b ≠ S → h1.get? b = some o → (h1.update S (Obj.mapSeq (fun _ => (#[] : Array Value)))).get? b = some o := fun b o hb e => (Heap.get?_update_other _ _ (Ne.symm hb)).trans e
  refine wpAny_bind (wpAny_letGo ?_)
  have up3 : ∀ b o, s.heap.get? b = some o → (h1.update S (Obj.mapSeq (fun _ => (#[] : Array Value)))).get? b = some o := fun b o e => up2 b o (old b o e) (up0 b o e)
  generalize hh2 : h1.update S (Obj.mapSeq (fun _ => (#[] : Array Value))) = h2 at *
  have Z2 : ZLS l1 l2 N S xs ys 0 h2 := Z.keep e1 e2 lN fun c o _ e => up3 c o e
  have zz2 := up3 _ _ zz
  have hT : Shared.TypeIs { s with heap := h2 } (.ref (N + 4)) "zip" := ⟨_, zz2, rfl⟩
  have hSI : S ≠ N + 4 := Nat.ne_of_gt lN
  unfold Builtin.List.listExtendWith
  refine wpAny_bind (wpAny_typeOf hT ?_)
  have b1 : Builtin.List.listSameRef (.ref S) (.ref (N + 4)) = false := by simp [Builtin.List.listSameRef, hSI]
  have b2 : (Value.type "zip" == Value.type "list") = false := by decide
  have b3 : (Value.type "zip" == Value.type "tuple") = false := by decide
  simp only [b1, b2, b3, Bool.or_false, Bool.false_eq_true, if_false]
  refine wpAny_bind (wpAny_pyIter_zip (s := { s with heap := h2 }) zz2 ?_)
  refine wpAny_bind (wpAny_holding ?_)
  unfold Builtin.List.listLengthHint
  refine wpAny_bind (wpAny_specialOf hT zip_no_len ?_)
  show wpAny _ A.in1.in1 (specialOf (Value.ref (N + 4)) (Str.ofString "__length_hint__") >>= _) _ _ _
  refine wpAny_bind (wpAny_specialOf hT zip_no_hint ?_)
  refine wpAny_pure ?_
  show wpAny _ A.in1.in1 (rule "list.extend.makes-room" >>= fun _ => Builtin.List.listTouch (.ref S) >>= fun _ =>
    again (.builtin "list.extend.loop" ⟨[.ref S, .ref (N + 4), .none], []⟩)) _ _ _
  refine wpAny_bind (wpAny_rule ?_)
  refine wpAny_bind ?_
  show wpAny _ A.in1.in1 (updateSeq S (·.push .none) >>= fun _ => updateSeq S (·.pop)) _ _ _
  refine wpAny_bind (wpAny_updateSeq (s := { s with heap := h2 }) hS2 rfl ?_ (by seq_fits) (by seq_fits))
  have hS3 := Heap.get?_update_self (Obj.mapSeq (·.push Value.none)) hS2 rfl
  refine wpAny_updateSeq (hz := by seq_fits) hS3 rfl ?_
  have hS4 := Heap.get?_update_self (Obj.mapSeq (·.pop)) hS3 rfl
  have up4 : ∀ b o, b ≠ S → h2.get? b = some o → ((h2.update S (Obj.mapSeq (·.push Value.none))).update S (Obj.mapSeq (·.pop))).get? b = some o :=
    fun b o hb e => (Heap.get?_update_other _ _ (Ne.symm hb)).trans ((Heap.get?_update_other _ _ (Ne.symm hb)).trans e)
  refine wpAny_pure ⟨plainId_quiet F.plain_extend_loop _, extend_zipL (N := N) (W := W) (yss := yss) (S := S) (A := A.in1) hh e1 e2 hW w1 ly lN W 0 _ [] _ rfl (Nat.zero_le _) (Z2.keep e1 e2 lN fun c o h1 e => up4 c o h1 e) hS4 rfl ⟨fun j T e => by simp at e, List.nodup_nil⟩ fun h' Ts c' hk' eS' lT lay => ?_⟩
  exact ⟨rfl, hQ h' Ts c' (fun b o hb e => hk' b o hb (old b o e) (up4 b o (old b o e) (up3 b o e))) eS' lT lay⟩
end
def tListZL (K : PySem.W.Frag) (ta : TA) : TE := fun σ H Q => ta σ H fun vs H1 => ∃ (a b : Addr) (xs ys : List V), vs = [.ref a, .ref b] ∧ SqL K H1 a xs ∧ SqL K H1 b ys ∧ xs.length = ys.length ∧ xs.length ≤ 100000 ∧
  ∀ (H' : Hp) (l : Addr) (ts : List Addr), Same H1 H' → H1 l = none → H' l = some (.lst (ts.map V.ref)) → ts.length = xs.length → (∀ (i : Nat) (t : Addr), ts[i]? = some t → H1 t = none ∧ H' t = some (.tup (rowV [xs, ys] i))) → Q (.ref l) H'
theorem pe_listZL (K : PySem.W.Frag) {X : Cx} {e : Expr} {es : List Expr} {ta : TA} {p p2 pos pos2 : Pos} (hc : X.calm = true) (hgl : Gl X "list") (hml : X.mg "list" = none) (hgz : Gl X "zip") (hmz : X.mg "zip" = none) (ha : PA X (e :: es) ta)
    (hs : starEach (e :: es) X.env = (false, eval e X.env) :: starEach es X.env := by rfl) (hpl : (backTo pos2 (starEach es X.env)).any (·.1) = false := by rfl)
    (na : starEach [.Call (.Name "zip" p2) (e :: es) [] pos2] X.env = (false, eval (.Call (.Name "zip" p2) (e :: es) [] pos2) X.env) :: starEach [] X.env := by rfl) (hK : X.K = K := by rfl) :
    PE X (.Call (.Name "list" p) [.Call (.Name "zip" p2) (e :: es) [] pos2] [] pos) (tListZL K ta) := by
  subst hK
  refine ⟨fun pins s σ H Q I h => ?_⟩
  refine Call_ (ld_blt I hgl hml PyProof.Rows.boot_list (PyProof.Rows.callWith_type1 (args_cons (Call_ (ld_blt I hgz hmz PyProof.Rows.boot_zip (PyProof.Rows.callWith_type1 (thn (ha.run pos2 pins s σ H _ I h) fun us s1 ⟨vs, H1, I1, r1, a, b, xs, ys, ev, ha1, hb1, lxy, lx, q⟩ => ?_) hs hpl))) na) na))
  subst ev
  obtain rfl : us = [Value.ref a, Value.ref b] := vals_refs (as := [a, b]) r1
  obtain ⟨xa, rx, px, _⟩ := I1.list ha1
  obtain ⟨ya, ry, py, _⟩ := I1.list hb1
  have lxa := rx.length
  have lya := ry.length
  have aN : a < s1.heap.objs.size := by obtain ⟨_, o, _⟩ := px.isList; exact Heap.lt_size o
  have bN : b < s1.heap.objs.size := by obtain ⟨_, o, _⟩ := py.isList; exact Heap.lt_size o
  generalize hN : s1.heap.objs.size = N at *
  refine PySem.call_zip_2 px.isList py.isList ?_
  rw [hN]
  intro h2 hz hTI hTO hi1 hi2 hsz hk
  refine args_nil ?_
  have rows : ∀ i, ∃ zs : List Value, i < xs.length → (Vals (rowV [xs, ys] i) zs ∧ ∃ x y, xa.toArray[i]? = some x ∧ ya.toArray[i]? = some y ∧ zs = [x, y]) := fun i => by
    by_cases hi : i < xs.length
    · obtain ⟨u, hu, ru⟩ := rx.get (List.getElem?_eq_getElem hi)
      obtain ⟨v, hv, rv⟩ := ry.get (List.getElem?_eq_getElem (show i < ys.length by omega))
      refine ⟨[u, v], fun _ => ⟨?_, u, v, by simpa using hu, by simpa using hv, rfl⟩⟩
      have e1 : xs.getD i .non = xs[i] := by rw [List.getD_eq_getElem?_getD, List.getElem?_eq_getElem hi]; rfl
      have e2 : ys.getD i .non = ys[i] := by rw [List.getD_eq_getElem?_getD, List.getElem?_eq_getElem (show i < ys.length by omega)]; rfl
      show Vals [xs.getD i .non, ys.getD i .non] [u, v]
      rw [e1, e2]
      exact .cons ru (.cons rv .nil)
    · exact ⟨[], fun h => absurd h hi⟩
  obtain ⟨yss, hy⟩ := Classical.skolem.mp rows
  have I2 : Inv X pins σ H1 { s1 with heap := h2 } := I1.kept (t' := s1.toks) hk
  have lz2 : N + 4 < h2.objs.size := by omega
  have Z0 : ZLS a b N h2.objs.size xa.toArray ya.toArray 0 h2 := ⟨hTI, hi1, hi2, px.isList.at fun o e => hk _ _ e, py.isList.at fun o e => hk _ _ e, .inl ⟨hz, _, _, hTO⟩⟩
  have fr : ∀ y, N ≤ y → H1 y = none → FpOk X pins H1 y := fun y hle hn => I1.fpOk (by rw [hN]; exact hle) hn
  have fz : ∀ y : Nat, N ≤ y → H1 y = none := fun y hle => I1.hok.fresh (by rw [hN]; exact hle)
  refine call_list_zipL (s := { s1 with heap := h2 }) (W := xs.length) (yss := yss) (I2.ok.hd hc) aN bN lx (by simp; omega) (fun i hi => (hy i hi).2) lz2 Z0 hz fun h3 Ts c hk3 eS lT lay => ?_
  have hf : ∀ b ∈ ownN N 2, FpOk X pins H1 b := fun b hb => by
    obtain ⟨k, hk, rfl⟩ := mem_ownN hb
    exact fr _ (Nat.le_add_right _ _) (fz _ (Nat.le_add_right _ _))
  have I3 : Inv X pins σ H1 { s1 with heap := h3 } := Inv.turnedL (s := { s1 with heap := h2 }) (t' := s1.toks) (ch := ownN N 2) I2 (fun b o nb e => hk3 b o (out_ownN nb) e) hf
  have hS0 : N ≤ h2.objs.size := by omega
  have hnS : H1 h2.objs.size = none := fz _ hS0
  have I4 : Inv X pins σ (upd H1 h2.objs.size (.lst (Ts.map V.ref))) { s1 with heap := h3 } := by
    refine I3.take (h' := h3) (t' := s1.toks) (fun b ob _ e => e) (fr _ hS0 hnS) (show ObjOk X.prog X.w _ _ _ (.lst (Ts.map V.ref)) from ⟨?_, Ts.map Value.ref, c, vals_maps V.ref Value.ref Ts fun _ _ => rfl, eS⟩)
    rw [List.length_map, lT, sizeLine_eq]
    omega
  obtain ⟨H5, I5, g5, q5⟩ := L2.DX.takeT (P := fun b vs => ∃ i, Ts[i]? = some b ∧ vs = rowV [xs, ys] i) I1 Ts _ I4 lay.n fun b hb => by
    obtain ⟨i, hi, rfl⟩ := List.mem_iff_getElem.mp hb
    have ei := List.getElem?_eq_getElem hi
    obtain ⟨l1, l2⟩ := lay.t i _ ei
    have hle : N ≤ Ts[i] := Nat.le_of_lt (Nat.lt_of_le_of_lt hS0 l2)
    refine ⟨by rw [hN]; exact hle, ?_, rowV [xs, ys] i, ⟨i, ei, rfl⟩, fun H6 => ⟨by show 2 ≤ sizeLine; decide, yss i, (hy i (by omega)).1, ⟨_, l1, rfl, 0, rfl⟩⟩⟩
    rw [upd_ne (Nat.ne_of_gt l2)]
    exact fz _ hle
  refine ⟨.ref h2.objs.size, H5, I5, rfl, q H5 h2.objs.size Ts (fun b o e => g5 b o (by rw [upd_ne (ne_of_none e hnS)]; exact e)) hnS (g5 _ _ upd_same) lT fun i t et => ?_⟩
  obtain ⟨vs, ⟨i', ei', rfl⟩, hH⟩ := q5 t (List.mem_of_getElem? et)
  have eii : i = i' := (List.getElem?_inj (at_len et) lay.n).mp (et.trans ei'.symm)
  subst eii
  exact ⟨fz _ (Nat.le_of_lt (Nat.lt_of_le_of_lt hS0 (lay.t i t et).2)), hH⟩
def zipD (ys zs : List PyData) : List PyData := (ys.zip zs).map fun p => .tuple [p.1, p.2]
def fListZ (fa : DA) : DI := fun δ n K => fa δ n fun xs m => ∃ ys zs, xs = [.d (.list ys), .d (.list zs)] ∧ ys.length = zs.length ∧ ys.length ≤ 100000 ∧ K (zipD ys zs) m
theorem sn_listZ {K : PySem.W.Frag} {ta : TA} {fa : DA} (ha : SA ta fa) : SN (tListZL K ta) (fListZ fa) := ⟨fun {L B O H σ δ n Q Kk} r k q => ha.run r k fun xs m vs H1 ⟨ys, zs, e, l1, l2, k1⟩ g1 lf1 v1 => by
  subst e
  cases v1 with
  | d h1 h2 => cases h2 with
    | d h2 h3 =>
      cases h3
      obtain ⟨a, us, rfl, _, ha1, hA⟩ := h1.lst2
      obtain ⟨b, ws, rfl, _, hb1, hB⟩ := h2.lst2
      have lA := hA.len
      have lB := hB.len
      refine ⟨a, b, us, ws, rfl, SqL.of ha1, SqL.of hb1, by omega, by omega, fun H' l ts sm hl el lt hts => ?_⟩
      have r1 := r.go g1 lf1
      have key : ∀ (i : Nat) t, ts[i]? = some t → ∃ d, (zipD ys zs)[i]? = some d ∧ Dt (l :: B) H' (.ref t) d := fun i t et => by
        obtain ⟨n1, hH⟩ := hts i t et
        have hi : i < us.length := by have := (List.getElem?_eq_some_iff.mp et).1; omega
        obtain ⟨x, ex, dx⟩ := hA.getV (List.getElem?_eq_getElem hi)
        obtain ⟨y, ey, dy⟩ := hB.getV (List.getElem?_eq_getElem (show i < ws.length by omega))
        refine ⟨.tuple [x, y], by unfold zipD; rw [List.getElem?_map, (List.getElem?_zip_eq_some (z := (x, y))).mpr ⟨ex, ey⟩]; rfl, ?_⟩
        have nb : t ∉ l :: B := fun z => by
          rcases List.mem_cons.mp z with w | w
          · rw [w, el] at hH; cases hH
          · exact (r1.bk t w).1 n1
        have e1 : us.getD i .non = us[i] := by rw [List.getD_eq_getElem?_getD, List.getElem?_eq_getElem hi]; rfl
        have e2 : ws.getD i .non = ws[i] := by rw [List.getD_eq_getElem?_getD, List.getElem?_eq_getElem (show i < ws.length by omega)]; rfl
        have hH : H' t = some (.tup [us.getD i .non, ws.getD i .non]) := hH
        rw [e1, e2] at hH
        exact .tup nb hH (.cons ((dx.fr hl).s sm) (.cons ((dy.fr hl).s sm) .nil))
      have hAll : DtA (l :: B) H' (ts.map V.ref) (zipD ys zs) := DtA.mk (by unfold zipD; simp; omega) fun i v d ev ed => by
        rw [List.getElem?_map] at ev
        obtain ⟨t, et, rfl⟩ := Option.map_eq_some_iff.mp ev
        obtain ⟨d', ed', h⟩ := key i t et
        obtain rfl : d' = d := Option.some.inj (ed'.symm.trans ed)
        exact h
      exact q _ m l _ H' k1 (g1.trans (Go.of sm)) (lf1.same sm) (g1.free hl) el hAll⟩
end Z

set_option Elab.async false
set_option linter.all false
set_option maxRecDepth 100000
set_option maxHeartbeats 400000
namespace Z
open PySem PySem.Spec PyProof.Rows L2
variable [TabCtx]
/-! ### what a def tells is new in all its lists -/
def tFin (t : TE) : TE := fun σ H Q => ∀ N : Nat, (∀ a : Nat, N ≤ a → H a = none) → t σ H Q
theorem pe_fin {X : Cx} {e : Expr} {t : TE} (h : PE X e t) : PE X e (tFin t) := ⟨fun pins s σ H Q I hq => h.run pins s σ H Q I (hq s.heap.objs.size fun a ha => I.hok.fresh ha)⟩
/-- the lists of v were not there in H -/
def NewL (H H' : Hp) (v : V) (d : PyData) : Prop := ∃ C : List Addr, (∀ a o, H a = some o → NoTup o → a ∈ C) ∧ Dt C H' v d
def spF (R : List Sl → Nat → DQ → Prop) : Sp := fun vs H Q _ => ∃ (L B : List Addr) (a : Addr) (us : List V) (ds : List PyData) (z : Int) (n : Nat) (K : DQ) (N : Nat), vs = [.ref a, .int z] ∧ (∀ b : Nat, N ≤ b → H b = none) ∧ H a = some (.lst us) ∧ DtA B H us ds ∧ Bk B H ∧ (∀ b ∈ L, b ∈ B) ∧ Lfs L H n ∧ R [.d (.list ds), .d (.int z)] n K ∧
  ∀ d m v H', K d m → Go L H H' → Lfs L H' m → Dt B H' v d → NewL H H' v d → Q v H'
/-- all lists of what is handed over may change -/
def spChgD (C : PyData → Prop) : Sp := fun vs H Q _ => ∃ v d, vs = [v] ∧ C d ∧ Dt [] H v d ∧ ∀ (Z : List Addr) H', (∀ z ∈ Z, (∃ xs, H z = some (.lst xs)) ∧ ∀ B, Dt B H v d → z ∉ B) → Go Z H H' → Q .non H'
theorem Go.news {L Z : List Addr} {H H2 H3 : Hp} (g : Go L H H2) (g2 : Go Z H2 H3) (f : ∀ z ∈ Z, H z = none) : Go L H H3 :=
  ⟨fun a o n m e => g2.k0 a o (fun q => by rw [f a q] at e; cases e) m (g.k0 a o n m e), fun a e => g2.d a (g.d a e), fun t => g2.t (g.t t), goU g.d g.u g2.u⟩
theorem NewL.fresh {L B : List Addr} {H H1 H2 : Hp} {v : V} {d : PyData} {n : Nat} (h : NewL H H1 v d) (lf : Lfs L H n) (g : Go L H H1) (g2 : Go L H1 H2) {z : Addr} (h1 : ∃ xs, H2 z = some (.lst xs)) (h2 : ∀ B, Dt B H2 v d → z ∉ B) : H z = none := by
  obtain ⟨C, hC, dv⟩ := h
  have lsL : ∀ a ∈ L, ∃ xs, H a = some (.lst xs) := fun a ha => by
    obtain ⟨x, y, z, e, _⟩ := lf.1 a ha
    exact ⟨_, e⟩
  have LC : ∀ a ∈ L, a ∈ C := fun a ha => by
    obtain ⟨xs, e⟩ := lsL a ha
    exact hC a _ e fun _ q => by cases q
  have nz := h2 C (dv.g (g2.w LC))
  cases e : H z with
  | none => rfl
  | some o =>
    refine absurd (hC z o e fun vs q => ?_) nz
    subst q
    have zL : z ∉ L := fun m => by
      obtain ⟨xs, e'⟩ := lsL z m
      rw [e] at e'
      cases e'
    have e2 := (g.trans g2).k0 z _ zL (fun _ q => by cases q) e
    obtain ⟨xs, e3⟩ := h1
    rw [e2] at e3
    cases e3
def fNewC (i p q : Nat) (R : List Sl → Nat → DQ → Prop) (C : PyData → Prop) (ft : DTt) (a b : DS) : DS := fun E δ n => ∃ ds z, δ[p]? = some (.d (.list ds)) ∧ δ[q]? = some (.d (.int z)) ∧ i < δ.length ∧ R [.d (.list ds), .d (.int z)] n fun d m => C d ∧ ft (δ.set i (.d d)) m fun t m2 => if t = true then a { E with nx := fun _ _ => False } (δ.set i (.d d)) m2 else b E (δ.set i .no) m2
theorem ss_newC {i p q : Nat} {R : List Sl → Nat → DQ → Prop} {C : PyData → Prop} {tt : TT} {ft : DTt} {U T : TS} {a b : DS} {E1 : XK} (ht : ST tt ft) (hU : SS U a) (hT : SS T b) :
    SS (tSeq (tAsg (tFin (tCall (spF R) [] E0 (tCons (tVar p) (tCons (tVar q) tNil)))) (gName i)) (tSeq (tIfS tt U tNext) (tSeq (tDrop (tCall (spChgD C) [] E1 (tCons (tVar i) tNil))) T))) (fNewC i p q R C ft a b) := ⟨fun {L B0 Fr B O σ H δ n D E} at' ⟨ds, z, ep, eq, li, k⟩ e => by
  obtain ⟨vp, e1, dp⟩ := at'.rel.dd p _ ep
  obtain ⟨ad, us, rfl, na, ha, hA⟩ := dp.lst2
  obtain ⟨vq, e2, dq⟩ := at'.rel.dd q _ eq
  cases dq
  refine fun N hN => ⟨_, e1, _, e2, L, B, ad, us, ds, z, n, _, N, rfl, hN, ha, hA, at'.rel.bk, at'.rel.lb, at'.rel.lf, k, fun d m v H1 ⟨hc, kt⟩ g l dv nw => ?_⟩
  have a1 := at'.go g l
  have a2 := a1.re (a1.rel.set_d i dv)
  refine ht.run a2.rel kt fun t m2 H2 k2 g2 l2 => ?_
  cases t with
  | true => exact iteT (hU.run (a2.go g2 l2) k2 ⟨fun h => h.elim, e.rt, e.rn, e.bk, e.ct⟩)
  | false =>
    refine iteF ?_
    have dv2 : Dt [] H2 v d := (dv.g (g2.w at'.rel.lb)).sub fun _ h => nomatch h
    have ev : (σ.set i (some v))[i]? = some (some v) := List.getElem?_set_self (by rw [at'.rel.len]; exact li)
    refine ⟨v, ev, v, d, rfl, hc, dv2, fun Z H3 hZ g3 => ?_⟩
    have fz : ∀ z ∈ Z, H z = none := fun z hz => nw.fresh (B := B) at'.rel.lf g g2 (hZ z hz).1 (hZ z hz).2
    have G := (g.trans g2).news g3 fz
    have zL : ∀ b ∈ L, b ∉ Z := fun b hb hz => by
      obtain ⟨x, y, w, e', _⟩ := at'.rel.lf.1 b hb
      rw [fz b hz] at e'
      cases e'
    have l3 : Lfs L H3 m2 := ⟨fun b hb => (l2.1 b hb).go g3 (zL b hb), g3.t l2.2⟩
    have a3 := at'.go G l3
    exact hT.run (a3.re (a3.rel.set_no i (some v))) k2 e⟩
end Z

set_option Elab.async false
set_option linter.all false
set_option maxRecDepth 100000
set_option maxHeartbeats 400000
namespace Z
open PySem PySem.Spec PyProof.Rows L2
variable [TabCtx]
/-! ### two lists that were told in a tuple are changed: the end of a def -/
def tFinS (t : TS) : TS := fun D σ H => ∀ N : Nat, (∀ a : Nat, N ≤ a → H a = none) → t D σ H
theorem pss_fin {X : Cx} {b : List Stmt} {t : TS} (h : PSs X b t) : PSs X b (tFinS t) := ⟨fun pins s σ H D I hq => h.run pins s σ H D I (hq s.heap.objs.size fun a ha => I.hok.fresh ha)⟩
mutual
/-- no list in it -/
def nL1 : PyData → Bool
  | .none | .bool _ | .int _ | .str _ => true
  | .tuple xs => nL1A xs
  | .list _ | .dict _ => false
def nL1A : List PyData → Bool
  | [] => true
  | x :: xs => nL1 x && nL1A xs
end
mutual
theorem nL1Dt {B C : List Addr} {H H' : Hp} (f : ∀ a vs, H a = some (.tup vs) → a ∉ C ∧ H' a = some (.tup vs)) : ∀ (d : PyData) (v : V), nL1 d = true → Dt B H v d → Dt C H' v d
  | .none, _, _, h => by cases h; exact .non
  | .bool b, _, _, h => by cases h; exact .bl b
  | .int i, _, _, h => by cases h; exact .int i
  | .str x, _, _, h => by cases h; exact .str x
  | .list ds, _, n, _ => by rw [nL1] at n; cases n
  | .tuple ds, _, n, h => by
    rw [nL1] at n
    cases h with
    | tup _ hs ha => exact .tup (f _ _ hs).1 (f _ _ hs).2 (nL1DtA f ds _ n ha)
  | .dict _, _, _, h => by cases h
theorem nL1DtA {B C : List Addr} {H H' : Hp} (f : ∀ a vs, H a = some (.tup vs) → a ∉ C ∧ H' a = some (.tup vs)) : ∀ (ds : List PyData) (vs : List V), nL1A ds = true → DtA B H vs ds → DtA C H' vs ds
  | [], _, _, h => by cases h; exact .nil
  | d :: ds, _, n, h => by
    rw [nL1A] at n
    have n := Bool.and_eq_true_iff.mp n
    cases h with
    | cons h1 h2 => exact .cons (nL1Dt f d _ n.1 h1) (nL1DtA f ds _ n.2 h2)
end
mutual
/-- a value and the heap settle the data -/
theorem Dt.det1 {B B' : List Addr} {H : Hp} : ∀ (d d' : PyData) (v : V), Dt B H v d → Dt B' H v d' → d = d'
  | .none, _, _, h, h' => by cases h; cases h'; rfl
  | .bool _, _, _, h, h' => by cases h; cases h'; rfl
  | .int _, _, _, h, h' => by cases h; cases h'; rfl
  | .str _, _, _, h, h' => by cases h; cases h'; rfl
  | .list ds, d', _, h, h' => by
    cases h with
    | lst _ e hA =>
      cases h' with
      | lst _ e' hA' =>
        rw [e] at e'
        cases e'
        rw [DtA.det1 ds _ _ hA hA']
      | tup _ e' _ =>
        rw [e] at e'
        cases e'
  | .tuple ds, d', _, h, h' => by
    cases h with
    | tup _ e hA =>
      cases h' with
      | tup _ e' hA' =>
        rw [e] at e'
        cases e'
        rw [DtA.det1 ds _ _ hA hA']
      | lst _ e' _ =>
        rw [e] at e'
        cases e'
  | .dict _, _, _, h, _ => by cases h
theorem DtA.det1 {B B' : List Addr} {H : Hp} : ∀ (ds ds' : List PyData) (vs : List V), DtA B H vs ds → DtA B' H vs ds' → ds = ds'
  | [], _, _, h, h' => by cases h; cases h'; rfl
  | d :: ds, _, _, h, h' => by
    cases h with
    | cons h1 h2 =>
      cases h' with
      | cons h1' h2' => rw [Dt.det1 d _ _ h1 h1', DtA.det1 ds _ _ h2 h2']
end
/-- a statement's data where what lies about it is known -/
structure SSL (L B0 : List Addr) (Fr : FR) (D : Ends) (T : TS) (f : DS) : Prop where
  run : ∀ {B O σ H δ n E}, At L B0 Fr B O σ H δ n → f E δ n → Em L B0 Fr D E → T D σ H
section
variable {L B0 : List Addr} {Fr : FR} {D : Ends} {T U : TS} {a b : DS}
theorem ssl_of (h : SS T a) : SSL L B0 Fr D T a := ⟨fun at' k e => h.run at' k e⟩
theorem ssl_seq (h1 : SS T a) (h2 : SSL L B0 Fr D U b) : SSL L B0 Fr D (tSeq T U) (fSeq a b) := ⟨fun at' k e => h1.run at' k ⟨fun k2 at2 => h2.run at2 k2 e, e.rt, e.rn, e.bk, e.ct⟩⟩
end
/-- which slots are still known: those without a list, the one of place p, what is drawn from -/
def Kept (p : Nat) (δ δ' : List Sl) : Prop := δ'.length = δ.length ∧ ∀ (j : Nat) s, δ'[j]? = some s → s = .no ∨ (∃ x, s = .d x ∧ δ[j]? = some (.d x) ∧ (nL1 x = true ∨ j = p)) ∨ (s = .l ∧ δ[j]? = some .l)
theorem ssl_mut2 {K : PySem.W.Frag} {i p : Nat} {L C : List Addr} {H0 : Hp} {pa : Addr} {D : Ends} {T : TS} {b : DS} {n0 : Nat} {ps0 : List PyData} (hL : Lfs L H0 n0) (hC : ∀ a o, H0 a = some o → NoTup o → a = pa ∨ a ∈ C) (hLC : ∀ a ∈ L, a ∈ C) (hp : Dt L H0 (.ref pa) (.list ps0)) (hT : SS T b) :
    SSL L C (fun B O H' => Go L H0 H' ∧ ∀ a ∈ O, H0 a = none) D (tSeq (tDrop (tBM K "list" rAppend (tOp (rIxT K) (tVar i) (tC (.int 0))) (tCons (tC (.int 0)) tNil))) (tSeq (tDrop (tBM0 K "list" rClear (tOp (rIxT K) (tVar i) (tC (.int 1))))) T))
      (fun E δ n => ∃ xs ys δ', δ[i]? = some (.d (.tuple [.list xs, .list ys])) ∧ xs.length ≤ 100000 ∧ δ[p]? = some (.d (.list ps0)) ∧ nL1A ps0 = true ∧ ps0 ≠ xs ∧ ps0 ≠ ys ∧ Kept p δ δ' ∧ b E δ' n) := ⟨fun {B O σ H δ n E} at' ⟨xs, ys, δ', ei, lx, ep, np, n1, n2, hk, k⟩ e => by
  obtain ⟨v, ev, dv⟩ := at'.rel.dd i _ ei
  obtain ⟨t, ws, rfl, nt, ht, hA⟩ := dv.tupI
  cases hA with
  | cons d1 hA => cases hA with
    | cons d2 hA =>
      cases hA
      obtain ⟨x, us, rfl, nx, hx, hX⟩ := d1.lst2
      obtain ⟨y, vs, rfl, ny, hy, hY⟩ := d2.lst2
      have g0 : Go L H0 H := at'.fr.1
      have CB : ∀ a ∈ C, a ∈ B := fun a ha => (at'.sb a ha).1
      have hpH : Dt L H (.ref pa) (.list ps0) := hp.g g0
      have nxp : x ≠ pa := fun z => by
        have h1 : Dt [] H (.ref x) (.list xs) := .lst (fun h => nomatch h) hx (hX.sub fun _ h => nomatch h)
        rw [z] at h1
        have := Dt.det1 _ _ _ hpH h1
        injection this with this
        exact n1 this
      have nyp : y ≠ pa := fun z => by
        have h1 : Dt [] H (.ref y) (.list ys) := .lst (fun h => nomatch h) hy (hY.sub fun _ h => nomatch h)
        rw [z] at h1
        have := Dt.det1 _ _ _ hpH h1
        injection this with this
        exact n2 this
      have fresh : ∀ z zs, z ∉ B → z ≠ pa → H z = some (.lst zs) → H0 z = none := fun z zs nz nzp hz => by
        cases eo : H0 z with
        | none => rfl
        | some o =>
          have zC : z ∉ C := fun m => nz (CB z m)
          by_cases nt : NoTup o
          · rcases hC z o eo nt with q | q
            · exact absurd q nzp
            · exact absurd q zC
          · obtain ⟨ts, et⟩ : ∃ ts, o = .tup ts := Classical.byContradiction fun q => nt fun ts e => q ⟨ts, e⟩
            subst et
            have := g0.k z _ (fun m => zC (hLC z m)) eo
            rw [this] at hz
            cases hz
      have fx := fresh x us nx nxp hx
      have fy := fresh y vs ny nyp hy
      have lu := hX.len
      have hx2 : upd H x (.lst (us ++ [.int 0])) x = some (.lst (us ++ [.int 0])) := upd_same
      obtain ⟨vs2, hy2⟩ : ∃ vs2, upd H x (.lst (us ++ [.int 0])) y = some (.lst vs2) := by
        by_cases q : y = x
        · exact ⟨_, by rw [q]; exact hx2⟩
        · exact ⟨vs, by rw [upd_ne q]; exact hy⟩
      have nxt : t ≠ x := fun q => by rw [q, hx] at ht; cases ht
      have nyt : t ≠ y := fun q => by rw [q, hy] at ht; cases ht
      refine ⟨_, ev, t, _, 0, .ref x, rfl, rfl, SqT.of ht, rfl, .inl ⟨rfl, us, SqL.of hx⟩, x, us, .int 0, rfl, rfl, hx, sz (by omega), ?_⟩
      refine ⟨_, ev, t, _, 1, .ref y, rfl, rfl, SqT.of (by rw [upd_ne nxt]; exact ht), rfl, .inl ⟨rfl, vs2, SqL.of hy2⟩, y, vs2, rfl, rfl, hy2, ?_⟩
      have G2 : Go [x, y] H (upd (upd H x (.lst (us ++ [.int 0]))) y (.lst [])) := (Go.refl.at (List.mem_cons_self ..) ⟨_, hx, trivial⟩).at (List.mem_cons_of_mem _ (List.mem_cons_self ..)) ⟨_, hy2, trivial⟩
      have other : ∀ c o, c ≠ x → c ≠ y → H c = some o → upd (upd H x (.lst (us ++ [.int 0]))) y (.lst []) c = some o := fun c o q1 q2 h => by rw [upd_ne q2, upd_ne q1]; exact h
      generalize upd (upd H x (.lst (us ++ [.int 0]))) y (.lst []) = H3 at *
      have G : Go L H0 H3 := g0.news G2 fun z hz => by
        simp only [List.mem_cons, List.not_mem_nil, or_false] at hz
        rcases hz with q | q
        · rw [q]; exact fx
        · rw [q]; exact fy
      have tups : ∀ a vs, H a = some (.tup vs) → H3 a = some (.tup vs) := fun a vs h => other a _ (fun q => by rw [q, hx] at h; cases h) (fun q => by rw [q, hy] at h; cases h) h
      have LB : ∀ a ∈ L, a ∈ B := at'.rel.lb
      have l3 : Lfs L H3 n := ⟨fun z hz => (at'.rel.lf.1 z hz).go G2 (fun m => by
        simp only [List.mem_cons, List.not_mem_nil, or_false] at m
        rcases m with q | q
        · exact nx (by rw [← q]; exact LB z hz)
        · exact ny (by rw [← q]; exact LB z hz)), G2.t at'.rel.lf.2⟩
      have bk3 : Bk C H3 := fun a ha => (at'.rel.bk.go G2) a (CB a ha)
      refine hT.run (B := C) (O := []) (σ := σ) (δ := δ') (n := n) ⟨frDef, fun a ha => ⟨ha, fun h => nomatch h⟩, ⟨G, fun _ h => nomatch h⟩, ?_⟩ k e
      exact {
        len := by rw [hk.1]; exact at'.rel.len
        dd := fun j d ej => by
          rcases hk.2 j _ ej with h | ⟨d', h, e0, h2⟩ | ⟨h, _⟩
          · cases h
          · cases h
            obtain ⟨v, f1, dv⟩ := at'.rel.dd j d e0
            refine ⟨v, f1, ?_⟩
            rcases h2 with h2 | h2
            · exact nL1Dt (fun a vs h => ⟨fun m => (at'.rel.bk a (CB a m)).2 vs h, tups a vs h⟩) d v h2 dv
            · subst h2
              rw [ep] at e0
              cases e0
              obtain ⟨a', ws, rfl, na', ha', hA'⟩ := dv.lst2
              have q1 : a' ≠ x := fun z => by
                have h1 : Dt [] H (.ref x) (.list xs) := .lst (fun h => nomatch h) hx (hX.sub fun _ h => nomatch h)
                rw [z] at dv
                have := Dt.det1 _ _ _ dv h1
                injection this with this
                exact n1 this
              have q2 : a' ≠ y := fun z => by
                have h1 : Dt [] H (.ref y) (.list ys) := .lst (fun h => nomatch h) hy (hY.sub fun _ h => nomatch h)
                rw [z] at dv
                have := Dt.det1 _ _ _ dv h1
                injection this with this
                exact n2 this
              exact .lst (fun m => na' (CB a' m)) (other _ _ q1 q2 ha') (nL1DtA (fun a vs h => ⟨fun m => (at'.rel.bk a (CB a m)).2 vs h, tups a vs h⟩) ps0 ws np hA')
          · cases h
        oo := fun j d ej => by rcases hk.2 j _ ej with h | ⟨d', h, e0, h2⟩ | ⟨h, _⟩ <;> cases h
        uq := fun j k xs ys c ej => by rcases hk.2 j _ ej with h | ⟨d', h, e0, h2⟩ | ⟨h, _⟩ <;> cases h
        kk := fun j t d ej => by rcases hk.2 j _ ej with h | ⟨d', h, e0, h2⟩ | ⟨h, _⟩ <;> cases h
        uk := fun j k t t' xs ys c ej => by rcases hk.2 j _ ej with h | ⟨d', h, e0, h2⟩ | ⟨h, _⟩ <;> cases h
        ll := fun j ej => by
          rcases hk.2 j _ ej with h | ⟨d', h, e0, h2⟩ | ⟨_, e0⟩
          · cases h
          · cases h
          · exact at'.rel.ll j e0
        vv := fun j u ej => by rcases hk.2 j _ ej with h | ⟨d', h, e0, h2⟩ | ⟨h, _⟩ <;> cases h
        bk := bk3
        ob := fun _ h => nomatch h
        lb := hLC
        lf := l3 }⟩
end Z

set_option Elab.async false
set_option linter.all false
set_option maxRecDepth 100000
set_option maxHeartbeats 1000000
/-! Zh: a tuple turned about by a step of -1; the numbers of a list once each, rising. -/
namespace Zr
open PySem PySem.Spec PyProof.Rows HT
theorem places_rev (n : Nat) : Builtin.Slice.slicePlaces ((n : Int) - 1) (-1) (-1) = n := by
  unfold Builtin.Slice.slicePlaces
  simp
  omega
theorem adjust_rev (n : Nat) : Builtin.Slice.sliceAdjust none none (-1) (n : Int) = ((n : Int) - 1, -1) := by
  unfold Builtin.Slice.sliceAdjust
  simp
theorem pick_rev (xs : Array Value) : ((List.range xs.size).filterMap fun (m : Nat) => xs[((xs.size : Int) - 1 + (m : Int) * (-1)).toNat]?) = xs.toList.reverse := by
  have e : (fun (m : Nat) => xs[((xs.size : Int) - 1 + (m : Int) * (-1)).toNat]?) = (fun k : Nat => xs[k]?) ∘ fun k : Nat => ((xs.size : Int) - 1 + (k : Int) * (-1)).toNat := rfl
  have e2 : (List.range xs.size).map (fun k : Nat => ((xs.size : Int) - 1 + (k : Int) * (-1)).toNat) = (List.range xs.size).map fun k => xs.size - 1 - k := List.map_congr_left fun k hk => by omega
  rw [e, ← List.filterMap_map, e2, PySem.W.krv_range, List.filterMap_reverse, PySem.W.krv_all]
section
variable {prog : Program} {w : World} {A : Around} {E : Value → Shared → Prop} {s : Shared}
theorem applied_rev {sl : Addr} {vk : Value} {n : Nat} {Q : Int × Int × Nat → Shared → Prop} (hs : s.heap.IsSliceOf sl .none .none vk) (pk : IsPart vk (some (-1))) (h : Q ((n : Int) - 1, -1, n) s) :
    wpAny (model prog w) A (Builtin.Slice.sliceApplied (.ref sl) (pure (n : Int))) Q E s := by
  obtain ⟨o, ho, _, hd⟩ := hs
  unfold Builtin.Slice.sliceApplied Builtin.Slice.sliceFields
  refine wpAny_bind (wpAny_bind (wpAny_field ho hd (x := .none) rfl (wpAny_bind (wpAny_field ho hd (x := .none) rfl (wpAny_bind (wpAny_field ho hd (x := vk) rfl (wpAny_pure ?_)))))))
  refine wpAny_bind (slicePart_ pk ?_)
  show wpAny _ _ (if ((-1 : Int) == 0) = true then _ else _) _ _ s
  rw [if_neg (by decide)]
  refine wpAny_bind (slicePart_ .none (wpAny_bind (slicePart_ .none (wpAny_bind (wpAny_pure ?_)))))
  show wpAny _ _ (match Builtin.Slice.sliceAdjust none none (-1) (n : Int) with | (lo, hi) => pure (lo, (-1 : Int), Builtin.Slice.slicePlaces lo hi (-1))) _ _ s
  rw [adjust_rev]
  show wpAny _ _ (pure ((n : Int) - 1, (-1 : Int), Builtin.Slice.slicePlaces ((n : Int) - 1) (-1) (-1))) _ _ s
  rw [places_rev]
  exact wpAny_pure h
theorem turned {t sl : Addr} {items : Array Value} {vk : Value} {Q : Value → Shared → Prop} (ht : IsTup s.heap t items) (hs : s.heap.IsSliceOf sl .none .none vk) (pk : IsPart vk (some (-1)))
    (h : Q (.ref s.heap.objs.size) { s with heap := s.heap.push { cls := .type "tuple", data := .seq items.toList.reverse.toArray } }) (hz : items.size ≤ sizeLine) : wpAny (model prog w) A (getItem (.ref t) (.ref sl)) Q E s := by
  have sz : sizeOk (.seq items.toList.reverse.toArray) := by
    show items.toList.reverse.toArray.size ≤ sizeLine
    simpa using hz
  obtain ⟨o, ho, hc, _⟩ := id hs
  unfold getItem
  try with_reducible refine wpAny_holding ?_
  first | refine wpAny_bind (wpAny_pure ?_) | skip
  refine wpAny_bind (wpAny_sequenceKey ht.typeIs (by decide) ?_)
  refine wpAny_bind (wpAny_callSpecial?_slot (name := Str.ofString "__getitem__") ht.typeIs PyProof.Rows.slot_tuple_getitem
    (wpAny_call_entry PyProof.Rows.slot_tuple_getitem ht.typeIs entry_tuple_getitem ?_ (args_tuple_getitem _ _)))
  show wpAny _ _ (Builtin.Tuple.tupleItemsOf (.ref t) >>= _) _ _ s
  refine wpAny_bind (tupleItemsOf_ ht ?_)
  refine wpAny_bind (wpAny_typeOf ⟨o, ho, hc⟩ ?_)
  rw [if_pos (by decide)]
  refine wpAny_bind (applied_rev hs pk ?_)
  show wpAny _ _ (if (((items.size : Int) - 1) == 0 && (-1 : Int) == 1 && items.size == items.size) = true then _ else _) _ _ s
  rw [if_neg (by simp), pick_rev]
  first
    | exact wpAny_bind (m := Builtin.Tuple.tupleExact _) (wpAny_newObj_type (wpAny_pure ⟨_, rfl, wpAny_pure h⟩) sz)
    | exact wpAny_bind (m := Builtin.Tuple.tupleExact _) (wpAny_newObj_type (wpAny_bind (wpAny_pure (wpAny_pure ⟨_, rfl, wpAny_pure h⟩))) sz)
    | exact wpAny_bind (wpAny_bind (m := Builtin.Tuple.tupleExact _) (wpAny_newObj_type (wpAny_pure (wpAny_pure ⟨_, rfl, wpAny_pure h⟩)) sz))
    | exact wpAny_bind (wpAny_bind (m := Builtin.Tuple.tupleExact _) (wpAny_newObj_type (wpAny_pure ⟨_, rfl, wpAny_pure h⟩) sz))
end
end Zr
namespace L2
open PySem PySem.Spec PyProof.Rows
def tRevT (K : PySem.W.Frag) (te : TE) : TE := fun σ H Q => te σ H fun x H1 => ∃ a xs, x = .ref a ∧ SqT K H1 a xs ∧ ∀ p, H1 p = none → Q (.ref p) (upd H1 p (.tup xs.reverse))
theorem pe_revT {X : Cx} {e : Expr} {te : TE} {k : Nat} {p1 p2 p3 pos : Pos} (he : PE X e te) : PE X (.Subscript e (.Slice none none (some (.UnaryOp .USub (.Constant (.int 1) k p1) p2)) p3) pos) (tRevT X.K te) := ⟨fun pins s σ H Q I h => by
  refine Subscript_ (thn (he.run pins s σ H _ I h) fun v s1 ⟨x, H1, I1, r1, a, xs, ex, hx, q⟩ => ?_)
  subst ex
  cases r1
  refine wpAny_Slice (thn (po_none.run pins s1 σ H1 (fun o H' => o = none ∧ H' = H1) I1 ⟨rfl, rfl⟩) fun vl s2 ⟨_, _, I2, _, el, eH⟩ => ?_)
  rename_i pl
  subst el eH
  refine thn (po_none.run pins s2 σ _ (fun o H' => o = none ∧ H' = _) I2 ⟨rfl, rfl⟩) fun vu s3 ⟨_, _, I3, pu, eu, eH3⟩ => ?_
  subst eu eH3
  have hst : PO X (some (.UnaryOp .USub (.Constant (.int 1) k p1) p2)) (tPart (tUn (rU fun i => .int (-i)) (tC (.int 1)))) := po_some (pe_un un_neg pe_int)
  refine thn (hst.run pins s3 σ _ (fun o H' => o = some (-1) ∧ H' = _) I3 ⟨1, rfl, -1, rfl, rfl, rfl⟩) fun vs s4 ⟨_, _, I4, ps, eo, eH4⟩ => ?_
  subst eo eH4
  cases pl
  cases pu
  have I5 := I4.kept (t' := s4.toks) (h' := s4.heap.push { cls := .type "slice", data := .fields #[.none, .none, vs] }) fun b ob q => Heap.get?_push_of_some _ q
  obtain ⟨its, r, ht, hz⟩ := I5.tuple hx
  have hlen : its.toArray.size = xs.length := by rw [List.size_toArray]; exact r.length.symm
  show wpAny (model X.prog X.w) X.A (subscriptTail e (.Slice none none (some (.UnaryOp .USub (.Constant (.int 1) k p1) p2)) p3) (.ref a) (.ref s4.heap.objs.size)) (EP X pins σ Q) X.xe { s4 with heap := s4.heap.push { cls := .type "slice", data := .fields #[.none, .none, vs] } }
  refine tail_any (ops := [.ref a, .ref s4.heap.objs.size]) ht.typeIs PyProof.Rows.slot_tuple_getitem.lookup ?_ (by with_unfolding_all rfl)
  refine Zr.turned ht (Heap.IsSliceOf.new _ .none .none vs) ps ?_ (by rw [hlen]; exact hz)
  refine ⟨.ref _, _, I5.laid (t' := s4.toks) (o := .tup xs.reverse) (fun b ob q => Heap.get?_push_of_some _ q) (Nat.le_refl _) ?_, rfl, q _ (I5.hok.fresh (Nat.le_refl _))⟩
  exact ⟨by rw [List.length_reverse]; exact hz, _, r.reverse, IsTup.new _ _⟩⟩
end L2
namespace L2
open PySem PySem.Spec PyProof.Rows
section
variable {P : Program} {w : World} {A : Around} {E : Value → Shared → Prop} {s : Shared}
abbrev newSetO (w : World) : Obj := { cls := .type "set", dict := none, data := .set #[] 0 (.fresh 0 0 (!w.params.followText "set-order")) }
set_option maxHeartbeats 4000000 in
/-- a type is called: what its __init__ does to what its __new__ made, the check of the arguments with it -/
theorem type_by_init {T newId initId : String} {args : List Value} {Q Q₁ : Value → Shared → Prop} (ft : TypeCalled T newId initId) (hct : checkTypeCall T ⟨args, []⟩ = pure ())
    (hnew : codeAny (model P w) A.in1 (.call (.builtin newId) ⟨.type T :: args, []⟩) (wants Q₁ E) s)
    (hinit : ∀ obj s₁, Q₁ obj s₁ → s₁.TypeIs obj T ∧ codeAny (model P w) A.in1 (.call (.builtin initId) ⟨obj :: args, []⟩) (wants (fun r s₂ => r = .none ∧ Q obj s₂) E) s₁) :
    wpAny (model P w) A (call (.type T) args) Q E s := by
  have hmade := ft.made
  have hsub := ft.sub
  have hnt := ft.notType
  have hcc := ft.canCreate
  obtain ⟨c, tl, hmro⟩ := ft.mro
  refine wpAny_call (codeAny_of_tree ?_)
  show wpAny _ _ (callAny (.type T) _) _ _ _
  refine wpAny_pure ⟨Code.quiet_builtin _ (by decide +kernel), codeAny_builtin F.entry_type_call ?_⟩
  rw [Around.under_plain (weight_type_call_type T args []) rfl]
  repeat (any_goals (first | assumption | wp_step))

  refine codeAny_mono hnew fun r s₁ hr => ?_
  match r, hr with
  | .error e, hr => exact hr
  | .ok (.ret obj), hr =>
    obtain ⟨hT, hI⟩ := hinit _ _ hr
    have hli := ft.init.lookup
    have hbi := ft.init.bind obj
    repeat (any_goals (first | assumption | wp_step))

    refine codeAny_mono hI fun r₂ s₂ hr₂ => ?_
    match r₂, hr₂ with
    | .error e, hr₂ => exact hr₂
    | .ok (.ret r), hr₂ =>
      obtain ⟨rfl, hq⟩ := hr₂
      repeat (any_goals (first | assumption | wp_step))
set_option maxHeartbeats 4000000 in
/-- the set of a list's numbers, as it can be walked -/
theorem set_of_list {l : Addr} {items : Array Value} (ns : List Int) {Q : Value → Shared → Prop} (hh : A.handled = none) (hl : s.heap.IsList l items) (hit : IntsAre items.toList ns) (hb : ns.length + 1 < scanBound)
    (h : ∀ (h' : Heap) (tk c : Nat), SetR w h' s.heap.objs.size (fun j => decide (j ∈ ns)) c → c ≤ ns.length → (∀ b o, s.heap.get? b = some o → h'.get? b = some o) → Q (.ref s.heap.objs.size) { s with heap := h', toks := tk }) :
    wpAny (model P w) A (call (.type "set") [.ref l]) Q E s := by
  have hsz : items.size = ns.length := by rw [← Array.length_toList]; exact IntsAre.length hit
  have hnew : (s.heap.push (newSetO w)).get? s.heap.objs.size = some (newSetO w) := Heap.get?_push_size _ rfl
  refine type_by_init (Q₁ := fun obj s₁ => obj = .ref s.heap.objs.size ∧ s₁ = { s with heap := s.heap.push (newSetO w) }) F.called_set (F.typeCall_set_1 _) (code_set_led1 _ ⟨rfl, rfl⟩) fun obj s₁ h1 => ?_
  obtain ⟨rfl, rfl⟩ := h1
  have hT : Shared.TypeIs { s with heap := s.heap.push (newSetO w) } (.ref s.heap.objs.size) "set" := ⟨_, hnew, rfl⟩
  refine ⟨hT, codeAny_call_builtin F.called_set.init.plain F.entry_set_init (check_set_init_1 hT ?_)⟩
  obtain ⟨⟨ocls, odict, odata, oslots⟩, ho, hc, nl, hd⟩ := id hl
  simp only at hc hd
  subst hc hd
  have hlt : l < s.heap.objs.size := Heap.lt_size ho
  have hs1 : (s.heap.push (newSetO w)).objs.size = s.heap.objs.size + 1 := Heap.size_push ..
  have ho1 : (s.heap.push (newSetO w)).get? l = some { cls := .type "list", dict := odict, data := .seq items nl, slots := oslots } := Heap.get?_push_of_some _ ho
  have hl1 : (s.heap.push (newSetO w)).IsList l items := ⟨_, ho1, rfl, nl, rfl⟩
  have f1 := F.sub_list_set
  have f2 := F.sub_list_frozenset
  have f3 : (Value.type "list" == Value.type "dict") = false := by decide
  unfold Builtin.«set.__init__» noKeywords Builtin.Frozenset.updateFrom
  generalize hPI : pyIter = PI
  wp_walk
  subst hPI
  refine wpAny_pyIter_list hl1 (wpAny_bind (wpAny_runValue ?_))
  have ne1 : l ≠ (s.heap.push (newSetO w)).objs.size := Nat.ne_of_lt (by rw [hs1]; exact Nat.lt_succ_of_lt hlt)
  have nin : s.heap.objs.size ∉ [(s.heap.push (newSetO w)).objs.size, l] := fun q => by
    simp only [List.mem_cons, List.not_mem_nil, or_false] at q
    rcases q with q | q
    · rw [hs1] at q
      exact Nat.ne_of_lt (Nat.lt_succ_self _) q
    · exact Nat.ne_of_gt hlt q
  refine set_update_ints ((Walks.list (A := A.in1.in1.in1) (by simp [hh]) _ l ne1 items).toS) s.heap.objs.size nin ns hsz hb (fun i v hv => ?_) items.size 0 _ (by omega) (Nat.zero_le _) ⟨⟨_, Heap.get?_push_size _ rfl, rfl, rfl⟩, hl1.push _⟩ ⟨0, Nat.le_refl 0, setR_new_at (Heap.get?_push_of_some _ hnew)⟩ fun s' c hm hc hR => ?_
  · have hi : i < ns.length := by rw [← hsz]; exact (Array.getElem?_eq_some_iff.mp hv).1
    obtain ⟨t, e⟩ := PyProof.Rows.IntsAre.int_at hit i v (by rw [Array.getElem?_toList]; exact hv)
    refine ⟨ns[i], t, List.getElem?_eq_getElem hi, ?_⟩
    rw [e, List.getD_eq_getElem?_getD, List.getElem?_eq_getElem hi]
    rfl
  · have e1 := hm.gens
    have e2 := hm.drawn
    have e3 := hm.os
    have keep : ∀ b o, s.heap.get? b = some o → s'.heap.get? b = some o := fun b o e => by
      have lt := Heap.lt_size e
      refine hm.heap b o (fun q => ?_) (Heap.get?_push_of_some _ (Heap.get?_push_of_some _ e))
      simp only [List.mem_cons, List.not_mem_nil, or_false] at q
      rcases q with q | q
      · exact Nat.ne_of_lt lt q
      · exact Nat.ne_of_lt (by rw [hs1]; exact Nat.lt_succ_of_lt lt) q
    obtain ⟨h', g2, d', tk', os'⟩ := s'
    simp only at e1 e2 e3
    subst e1 e2 e3
    exact wpAny_pure (wpAny_pure ⟨rfl, h h' tk' c hR (by omega) keep⟩)
end
end L2
namespace L2
open PySem PySem.Spec PyProof.Rows
/-- sorted(set(xs)): each number once, rising -/
def tSortSetI (K : PySem.W.Frag) (ta : TE) : TE := fun σ H Q => ta σ H fun x H1 => ∃ (l : Addr) (ns : List Int), x = .ref l ∧ SqL K H1 l (ns.map V.int) ∧ ns.length < 64 ∧
  ∀ (ms : List Int) (p : Addr), ms.Pairwise (· < ·) → (∀ k, k ∈ ms ↔ k ∈ ns) → ms.length ≤ ns.length → H1 p = none → Q (.ref p) (upd H1 p (.lst (ms.map V.int)))
theorem pe_sortSetI {X : Cx} {a : Expr} {ta : TE} {p p2 q pos : Pos} (hg : Gl X "sorted") (hm : X.mg "sorted" = none) (hg2 : Gl X "set") (hm2 : X.mg "set" = none) (ha : PE X a ta) (hc : X.calm = true := by rfl)
    (na : starEach [a] X.env = (false, eval a X.env) :: starEach [] X.env := by rfl) : PE X (.Call (.Name "sorted" p) [.Call (.Name "set" p2) [a] [] q] [] pos) (tSortSetI X.K ta) := ⟨fun pins s σ H Q I h => by
  refine Call_ (ld_blt I hg hm boot_sorted ?_)
  refine PyProof.Rows.callWith_builtin1 (PyProof.Rows.args_cons ?_ rfl) rfl rfl
  refine Call_ (ld_blt I hg2 hm2 PyProof.Rows.boot_set ?_)
  refine PyProof.Rows.callWith_type1 (PyProof.Rows.args_cons (thn (ha.run pins s σ H _ I h) fun v s1 ⟨x, H1, I1, r1, l, ns, ex, hq, h64, q1⟩ => PyProof.Rows.args_nil ?_) na) na rfl
  subst ex
  cases r1
  obtain ⟨its, r, pl, hz⟩ := I1.list hq
  have hd := I1.ok.hd hc
  refine set_of_list ns hd pl.isList (by simpa using r.ints) (by unfold scanBound; omega) fun h' tk c R hcn hk => ?_
  refine PyProof.Rows.args_nil ?_
  have I2 : Inv X pins σ H1 { s1 with heap := h', toks := tk } := I1.kept (t' := tk) hk
  refine sorted_set (s := { s1 with heap := h', toks := tk }) R hd (by omega) fun s' p out cc ms k g o hp hg3 hi hs hm3 hl => ?_
  have hlen : (ms.map V.int).length ≤ sizeLine := by rw [List.length_map, hl, sizeLine_eq]; omega
  have hn : H1 p = none := I2.hok.fresh hp
  have J := I2.call (ch := []) (g' := s'.gens) (d' := s'.drawn) (t' := s'.toks) (Un.laid k hp hn) (I2.hok.laid k hp (o := .lst (ms.map V.int)) ⟨hlen, out.toList, cc, vals_of_ints hi, hg3⟩) (by rw [g]; exact I2.bare) (fun _ z => nomatch z)
  obtain ⟨h2, g2, d2, t2, o2⟩ := s'
  simp only at o
  subst o
  exact ⟨.ref p, _, J, rfl, q1 ms p hs (fun k => by rw [hm3 k, decide_eq_true_eq]) (by omega) hn⟩⟩
end L2
namespace Z
open PySem PySem.Spec PyProof.Rows L2
variable [TabCtx]
def fRevT (fe : DE) : DE := fun δ n K => fe δ n fun d m => ∃ xs, d = .tuple xs ∧ K (.tuple xs.reverse) m
def fRevL (fe : DE) : DI := fun δ n K => fe δ n fun d m => ∃ xs, d = .list xs ∧ K xs.reverse m
theorem pe_revTK (K : PySem.W.Frag) {X : Cx} {e : Expr} {te : TE} {k : Nat} {p1 p2 p3 pos : Pos} (he : PE X e te) (h : X.K = K := by rfl) : PE X (.Subscript e (.Slice none none (some (.UnaryOp .USub (.Constant (.int 1) k p1) p2)) p3) pos) (tRevT K te) := h ▸ pe_revT he
theorem pe_revLK (K : PySem.W.Frag) {X : Cx} {e : Expr} {te : TE} {k : Nat} {p1 p2 p3 pos : Pos} (he : PE X e te) (h : X.K = K := by rfl) : PE X (.Subscript e (.Slice none none (some (.UnaryOp .USub (.Constant (.int 1) k p1) p2)) p3) pos) (tRevL K te) := h ▸ pe_revL he
theorem se_revT {K : PySem.W.Frag} {te : TE} {fe : DE} (he : SE te fe) : SE (tRevT K te) (fRevT fe) := ⟨fun {L B O H σ δ n Q K'} h k q => he.run h k fun d m v H1 ⟨xs, e, k1⟩ g1 l1 d1 => by
  subst e
  obtain ⟨a, vs, rfl, _, ha, hA⟩ := d1.tupI
  refine ⟨a, vs, rfl, SqT.of ha, fun p hp => ?_⟩
  exact q _ _ _ _ k1 (g1.trans (Go.of (sm_new hp))) (l1.same (sm_new hp)) (.tup ((h.bk.go g1).ne hp) upd_same (hA.rev.s (sm_new hp)))⟩
theorem sn_revL {K : PySem.W.Frag} {te : TE} {fe : DE} (he : SE te fe) : SN (tRevL K te) (fRevL fe) := ⟨fun {L B O H σ δ n Q K'} h k q => he.run h k fun d m v H1 ⟨xs, e, k1⟩ g1 l1 d1 => by
  subst e
  obtain ⟨a, vs, rfl, _, ha, hA⟩ := d1.lst2
  refine ⟨a, vs, rfl, SqL.of ha, fun p hp => ?_⟩
  exact q _ _ _ _ _ k1 (g1.trans (Go.of (sm_new hp))) (l1.same (sm_new hp)) (g1.free hp) upd_same ((hA.rev.fr hp).s (sm_new hp))⟩
def fSortSet (fe : DE) : DI := fun δ n K => fe δ n fun d m => ∃ ns : List Int, d = eI ns ∧ ns.length < 64 ∧ ∀ ms : List Int, ms.Pairwise (· < ·) → (∀ k, k ∈ ms ↔ k ∈ ns) → ms.length ≤ ns.length → K (ms.map .int) m
theorem pe_sortSetK (K : PySem.W.Frag) {X : Cx} {a : Expr} {ta : TE} {p p2 q pos : Pos} (hg : Gl X "sorted") (hm : X.mg "sorted" = none) (hg2 : Gl X "set") (hm2 : X.mg "set" = none) (ha : PE X a ta) (hc : X.calm = true := by rfl) (hK : X.K = K := by rfl)
    (na : starEach [a] X.env = (false, eval a X.env) :: starEach [] X.env := by rfl) : PE X (.Call (.Name "sorted" p) [.Call (.Name "set" p2) [a] [] q] [] pos) (tSortSetI K ta) := by
  subst hK
  exact pe_sortSetI hg hm hg2 hm2 ha hc na
theorem sn_sortSet {K : PySem.W.Frag} {te : TE} {fe : DE} (he : SE te fe) : SN (tSortSetI K te) (fSortSet fe) := ⟨fun {L B O H σ δ n Q K'} h k q => he.run h k fun d m v H1 ⟨ns, e, l6, k1⟩ g1 l1 d1 => by
  subst e
  obtain ⟨a, rfl, na, ha⟩ := d1.ints
  refine ⟨a, ns, rfl, SqL.of ha, l6, fun ms p pw hm hl hp => ?_⟩
  exact q _ _ _ _ _ (k1 ms pw hm hl) (g1.trans (Go.of (sm_new hp))) (l1.same (sm_new hp)) (g1.free hp) upd_same (DtA.ints ms)⟩
end Z

set_option Elab.async false
set_option linter.all false
set_option maxRecDepth 100000
set_option maxHeartbeats 1000000
namespace L2
open PySem PySem.Spec PyProof.Rows
section
variable {P : Program} {w : World} {A : Around} {E : Value → Shared → Prop} {s : Shared}
theorem collect_tup {t : Addr} {vs : List Value} {Q : List Value → Shared → Prop} (ht : IsTup s.heap t vs.toArray) (hz : vs.length ≤ sizeLine)
    (h : Q vs { s with heap := (s.heap.push (seqObj "list" #[] 0)).update s.heap.objs.size (Obj.mapSeq (· ++ vs.toArray)) }) :
    wpAny (model P w) A (collect (.ref t)) Q E s := by
  obtain ⟨o, ho, hc, n, hd⟩ := id ht
  have hnew : (s.heap.push (seqObj "list" #[] 0)).get? s.heap.objs.size = some (seqObj "list" #[] 0) := Heap.get?_push_size _ rfl
  have ho1 : (s.heap.push (seqObj "list" #[] 0)).get? t = some o := Heap.get?_push_of_some _ ho
  unfold collect
  refine wpAny_bind (wpAny_runValue (codeAny_builtin entry_proto_collect' ?_))
  show wpAny _ _ (do again (.builtin "list.__iadd__" ⟨[← newList [], .ref t], []⟩)) _ _ s
  refine wpAny_bind (wpAny_newList (wpAny_pure ⟨Code.quiet_builtin _ (by decide +kernel), codeAny_builtin entry_list_iadd' ?_⟩))
  show wpAny _ _ (Builtin.List.listExtendWith (.ref s.heap.objs.size) (.ref t) (.ref s.heap.objs.size)) _ _ { s with heap := s.heap.push (seqObj "list" #[] 0) }
  unfold Builtin.List.listExtendWith
  refine wpAny_bind (wpAny_typeOf (T := "tuple") ⟨o, ho1, hc⟩ ?_)
  rw [if_pos (by rw [show (Value.type "tuple" == Value.type "tuple") = true from rfl]; simp)]
  refine wpAny_bind (listItems_at ho1 hd ?_)
  refine wpAny_bind (listItems_at (xs := #[]) (n := 0) hnew rfl ?_)
  rw [if_neg (by simp)]
  refine wpAny_bind (listUpdate_at (xs := #[]) (n := 0) hnew rfl ?_ (Nat.zero_le _) (by show (#[] ++ vs.toArray).size ≤ sizeLine + 1; simp only [Array.size_append, List.size_toArray, List.length_nil]; omega))
  refine wpAny_pure ?_
  show wpAny (model P w) A (do
      let o ← load s.heap.objs.size
      match o.data with
      | .seq xs _ => pure xs.toList
      | _ => unsupported "internal:collect") Q E { s with heap := (s.heap.push (seqObj "list" #[] 0)).update s.heap.objs.size (Obj.mapSeq (· ++ vs.toArray)) }
  refine wpAny_bind (wpAny_load (get?_update_seq hnew _) ?_)
  show wpAny _ _ (pure ((#[] : Array Value) ++ vs.toArray).toList) Q E _
  rw [show ((#[] : Array Value) ++ vs.toArray).toList = vs by simp]
  exact wpAny_pure h
/-- a tuple's numbers are sorted into a new list, fewer than 64 of them -/
theorem sorted_tupI {t : Addr} {vs : List Value} {ns : List Int} {Q : Value → Shared → Prop} (ht : IsTup s.heap t vs.toArray) (hI : IntsAre vs ns) (h64 : vs.length < 64)
    (hQ : ∀ (s' : Shared) (p : Addr) (out : Array Value) (c : Nat) (ms : List Int), (∀ b o, s.heap.get? b = some o → s'.heap.get? b = some o) → s'.gens = s.gens → s'.os = s.os → s.heap.objs.size ≤ p →
      s'.heap.get? p = some (seqObj "list" out c) → IntsAre out.toList ms → ms.Perm ns → ms.Pairwise (· ≤ ·) → Q (.ref p) s') :
    wpAny (model P w) A (call (.builtin "sorted") [.ref t]) Q E s := by
  have hz : vs.length ≤ sizeLine := by rw [sizeLine_eq]; omega
  refine Calls.call_function_entry kind_sorted plain_sorted entry_sorted (args_sorted1 _) ?_
  unfold Builtin.«sorted»
  refine wpAny_bind (m := checkCount "sorted" 1 1 _) (wpAny_pure ?_)
  refine wpAny_bind (collect_tup ht hz ?_)
  refine wpAny_bind (wpAny_newList ?_ hz)
  have hs1 : ((s.heap.push (seqObj "list" #[] 0)).update s.heap.objs.size (Obj.mapSeq (· ++ vs.toArray))).objs.size = s.heap.objs.size + 1 := by rw [Heap.size_update, size_push']
  have hoL : (((s.heap.push (seqObj "list" #[] 0)).update s.heap.objs.size (Obj.mapSeq (· ++ vs.toArray))).push (seqObj "list" vs.toArray 0)).get? ((s.heap.push (seqObj "list" #[] 0)).update s.heap.objs.size (Obj.mapSeq (· ++ vs.toArray))).objs.size = some (seqObj "list" vs.toArray 0) := Heap.get?_push_size _ rfl
  refine wpAny_bind (wpAny_holding (wpAny_call_entry slot_list_sort ⟨_, hoL, rfl⟩ entry_list_sort (list_sort_tree hoL hI h64 fun out ms a1 a2 a3 => ⟨_, rfl, ?_⟩) (args_list_sort _)))
  obtain ⟨c, hc⟩ := sortedHeap_at (vs := vs) (out := out) hoL
  refine wpAny_pure ⟨_, rfl, hQ _ _ out c ms (fun b u e => ?_) rfl rfl (by rw [hs1]; exact Nat.le_succ _) hc a1 a2 a3⟩
  have lt := Heap.lt_size e
  have e1 : ((s.heap.push (seqObj "list" #[] 0)).update s.heap.objs.size (Obj.mapSeq (· ++ vs.toArray))).get? b = some u := by
    rw [Heap.get?_update_other _ _ (Nat.ne_of_gt lt)]
    exact Heap.get?_push_of_some _ e
  show (sortedHeap (((s.heap.push (seqObj "list" #[] 0)).update s.heap.objs.size (Obj.mapSeq (· ++ vs.toArray))).push (seqObj "list" vs.toArray 0)) _ vs out).get? b = some u
  rw [sortedHeap_old (Nat.ne_of_lt (Heap.lt_size e1)) (by rw [size_push']; exact Nat.lt_succ_of_lt (Heap.lt_size e1))]
  exact Heap.get?_push_of_some _ e1
end
end L2
namespace L2
open PySem PySem.Spec PyProof.Rows
/-- sorted(t), a tuple of ints -/
def rSortTI (K : PySem.W.Frag) : List V → Hp → VK → Prop := fun vs H Q => ∃ (a : Addr) (ns : List Int), vs = [V.ref a] ∧ SqT K H a (ns.map V.int) ∧ ns.length < 64 ∧
  ∀ (ms : List Int) (p : Addr), ms.Perm ns → ms.Pairwise (· ≤ ·) → H p = none → Q (.ref p) (upd H p (.lst (ms.map V.int)))
theorem cr_sortTI {X : Cx} : CallR X (.builtin "sorted") (rSortTI X.K) := by
  intro pins s σ H vs us Q I r h
  obtain ⟨a, ns, rfl, hs, h64, q⟩ := h
  obtain ⟨its, rv, ht, hz⟩ := I.tuple hs
  rw [Vals.ref1 r]
  have lv : its.length = ns.length := by rw [← rv.length, List.length_map]
  refine sorted_tupI ht rv.ints (by omega) fun s' p out c ms k g o hp hg hi pm pw => ?_
  have hn : H p = none := I.hok.fresh hp
  have hlen : (ms.map V.int).length ≤ sizeLine := by rw [List.length_map, pm.length_eq, sizeLine_eq]; omega
  have J := I.call (ch := []) (g' := s'.gens) (d' := s'.drawn) (t' := s'.toks) (Un.laid k hp hn) (I.hok.laid k hp (o := .lst (ms.map V.int)) ⟨hlen, out.toList, c, vals_of_ints hi, hg⟩) (by rw [g]; exact I.bare) (fun _ z => nomatch z)
  obtain ⟨h2, g2, d2, t2, o2⟩ := s'
  simp only at o
  subst o
  exact ⟨.ref p, _, J, rfl, q ms p pm pw hn⟩
end L2
namespace Z
open PySem PySem.Spec PyProof.Rows L2
variable [TabCtx]
theorem cr_sortTIK (K : PySem.W.Frag) {X : Cx} (h : X.K = K := by rfl) : CallR X (.builtin "sorted") (rSortTI K) := h ▸ cr_sortTI
def rdSortT : List PyData → (List PyData → Prop) → Prop := fun ds K => ∃ ns : List Int, ds = [eC ns] ∧ ns.length < 64 ∧ ∀ ms : List Int, ms.Perm ns → ms.Pairwise (· ≤ ·) → K (ms.map .int)
theorem scn_sortT {K : PySem.W.Frag} : SCN (rSortTI K) rdSortT := ⟨fun hB hA ⟨ns, e, l6, k⟩ q => by
  subst e
  cases hA with
  | cons g1 g2 =>
    cases g2
    obtain ⟨a, rfl, na, ha⟩ := g1.col
    exact ⟨a, ns, rfl, SqT.of ha, l6, fun ms p h1 h2 hp => q _ _ _ _ (k ms h1 h2) (sm_new hp) hp upd_same (DtA.ints ms)⟩⟩
def rStrI : List V → Hp → VK → Prop := fun xs H Q => ∃ i : Int, xs = [.int i] ∧ i.natAbs.log2 < 1920 ∧ Q (.str (toString i)) H
def rdStrI : List PyData → (PyData → Prop) → Prop := fun ds K => ∃ i : Int, ds = [.int i] ∧ i.natAbs.log2 < 1920 ∧ K (.str (toString i))
theorem cr_strI {X : Cx} : CallR X (.type "str") rStrI := call_str_int
theorem sc_strI : SC rStrI rdStrI := ⟨fun hB hA ⟨i, e, h, k⟩ q => by
  subst e
  cases hA with
  | cons g1 g2 =>
    cases g2
    cases g1
    exact ⟨i, rfl, h, q _ _ _ k (Same.refl _) (.str _)⟩⟩
end Z

set_option Elab.async false
set_option linter.all false
set_option maxRecDepth 100000
set_option maxHeartbeats 1000000
/-! Zj: len(set(xs)) of any ints; sorted(set(t)) of a tuple of ints; xs.reverse() of one's own list. -/
namespace L2
open PySem PySem.Spec PyProof.Rows
theorem firstMet_cnt (ns : List Int) : ∀ i, i ≤ ns.length → (PyProof.Rows.firstMet (fun j => ns.getD j 0) i).length ≤ i ∧ ((PyProof.Rows.firstMet (fun j => ns.getD j 0) i).length = i → PyProof.Rows.firstMet (fun j => ns.getD j 0) i = ns.take i ∧ (ns.take i).Nodup)
  | 0, _ => ⟨by rw [PyProof.Rows.firstMet_zero]; exact Nat.le_refl _, fun _ => ⟨by rw [PyProof.Rows.firstMet_zero]; rfl, by simp⟩⟩
  | i + 1, hi => by
    have hlt : i < ns.length := hi
    obtain ⟨ih1, ih2⟩ := firstMet_cnt ns i (Nat.le_of_lt hlt)
    have e1 : ns.getD i 0 = ns[i] := by
      rw [List.getD_eq_getElem?_getD, List.getElem?_eq_getElem hlt] <;> rfl
    have e2 : ns.take (i + 1) = ns.take i ++ [ns[i]] := by
      rw [List.take_add_one, List.getElem?_eq_getElem hlt] <;> rfl
    rw [PyProof.Rows.firstMet_succ]
    unfold PyProof.Rows.step_dedup
    rw [e1]
    cases hb : (PyProof.Rows.firstMet (fun j => ns.getD j 0) i).any (· == ns[i]) with
    | true => exact ⟨Nat.le_succ_of_le ih1, fun h => by
        have h : (PyProof.Rows.firstMet (fun j => ns.getD j 0) i).length = i + 1 := h
        omega⟩
    | false =>
      refine ⟨by show (_ ++ [_] : List Int).length ≤ i + 1; rw [List.length_append, List.length_singleton]; omega, fun h => ?_⟩
      have h : (PyProof.Rows.firstMet (fun j => ns.getD j 0) i ++ [ns[i]]).length = i + 1 := h
      rw [List.length_append, List.length_singleton] at h
      obtain ⟨h3, h4⟩ := ih2 (by omega)
      refine ⟨by rw [e2, ← h3]; rfl, ?_⟩
      rw [e2]
      refine List.nodup_append.mpr ⟨h4, by simp, fun x hx y hy e => ?_⟩
      rw [List.mem_singleton.mp hy] at e
      rw [h3] at hb
      have := List.any_eq_false.mp hb x hx
      rw [e] at this
      simp at this
def tLenSetA (K : PySem.W.Frag) (ta : TE) : TE := fun σ H Q => ta σ H fun x H1 => ∃ (l : Addr) (ns : List Int), x = .ref l ∧ SqL K H1 l (ns.map V.int) ∧ ns.length ≤ 4000 ∧ ∀ c : Nat, c ≤ ns.length → (c = ns.length ↔ ns.Nodup) → Q (.int (c : Nat)) H1
theorem pe_lenSetA {X : Cx} {a : Expr} {ta : TE} {p p2 q pos : Pos} (hg : Gl X "len") (hm : X.mg "len" = none) (hg2 : Gl X "set") (hm2 : X.mg "set" = none) (ha : PE X a ta) (hc : X.calm = true := by rfl)
    (na : starEach [a] X.env = (false, eval a X.env) :: starEach [] X.env := by rfl) : PE X (.Call (.Name "len" p) [.Call (.Name "set" p2) [a] [] q] [] pos) (tLenSetA X.K ta) := ⟨fun pins s σ H Q I h => by
  refine Call_ (ld_blt I hg hm PySem.boot_len ?_)
  refine PyProof.Rows.callWith_builtin1 (PyProof.Rows.args_cons ?_ rfl) rfl rfl
  refine Call_ (ld_blt I hg2 hm2 PyProof.Rows.boot_set ?_)
  refine PyProof.Rows.callWith_type1 (PyProof.Rows.args_cons (thn (ha.run pins s σ H _ I h) fun v s1 ⟨x, H1, I1, r1, q1⟩ => PyProof.Rows.args_nil ?_) na) na rfl
  obtain ⟨l, ns, rfl, hq, hl, q1⟩ := q1
  cases r1
  obtain ⟨its, r, pl, hz⟩ := I1.list hq
  have hlen : its.toArray.size = ns.length := by rw [List.size_toArray, ← r.length, List.length_map]
  refine PySem.call_set_list (I1.ok.hd hc) pl.isList (by simpa using RZ.intsAre_vals r) (by rw [hlen]; unfold scanBound; omega) fun h' tk hS hk => ?_
  refine PyProof.Rows.args_nil ?_
  rw [hlen] at hS
  have cnt := firstMet_cnt ns ns.length (Nat.le_refl _)
  rw [List.take_length] at cnt
  have nd : ns.Nodup → (PyProof.Rows.firstMet (fun j => ns.getD j 0) ns.length).length = ns.length := fun h => by rw [RZ.firstMet_nodup h ns.length (Nat.le_refl _), List.take_length]
  obtain ⟨c, ec⟩ : ∃ c, c = (PyProof.Rows.firstMet (fun j => ns.getD j 0) ns.length).length := ⟨_, rfl⟩
  rw [← ec] at hS cnt nd
  obtain ⟨o, es, ep, t, ho, hex, hd, _, _, _, hf, hn⟩ := hS
  have I2 : Inv X pins σ H1 { s1 with heap := h', toks := tk } := I1.kept fun b o e => hk b o (Heap.lt_size e) e
  exact call_len_set ho hex hd hf (by rw [hn]; have := cnt.1; omega) ⟨.int c, H1, I2.tok _, ⟨_, by rw [hn]⟩, q1 c cnt.1 ⟨fun h => (cnt.2 h).2, nd⟩⟩⟩
/-- sorted(set(t)) of a tuple: each number once, rising -/
def tSortSetT (K : PySem.W.Frag) (ta : TE) : TE := fun σ H Q => ta σ H fun x H1 => ∃ (l : Addr) (ns : List Int), x = .ref l ∧ SqT K H1 l (ns.map V.int) ∧ ns.length < 64 ∧
  ∀ (ms : List Int) (p : Addr), ms.Pairwise (· < ·) → (∀ k, k ∈ ms ↔ k ∈ ns) → ms.length ≤ ns.length → H1 p = none → Q (.ref p) (upd H1 p (.lst (ms.map V.int)))
theorem pe_sortSetT {X : Cx} {a : Expr} {ta : TE} {p p2 q pos : Pos} (hg : Gl X "sorted") (hm : X.mg "sorted" = none) (hg2 : Gl X "set") (hm2 : X.mg "set" = none) (ha : PE X a ta) (hc : X.calm = true := by rfl)
    (na : starEach [a] X.env = (false, eval a X.env) :: starEach [] X.env := by rfl) : PE X (.Call (.Name "sorted" p) [.Call (.Name "set" p2) [a] [] q] [] pos) (tSortSetT X.K ta) := ⟨fun pins s σ H Q I h => by
  refine Call_ (ld_blt I hg hm boot_sorted ?_)
  refine PyProof.Rows.callWith_builtin1 (PyProof.Rows.args_cons ?_ rfl) rfl rfl
  refine Call_ (ld_blt I hg2 hm2 PyProof.Rows.boot_set ?_)
  refine PyProof.Rows.callWith_type1 (PyProof.Rows.args_cons (thn (ha.run pins s σ H _ I h) fun v s1 ⟨x, H1, I1, r1, l, ns, ex, hq, h64, q1⟩ => PyProof.Rows.args_nil ?_) na) na rfl
  subst ex
  cases r1
  obtain ⟨its, r, pl, hz⟩ := I1.tuple hq
  have hd := I1.ok.hd hc
  refine call_set_tupI ns hd (show s1.heap.IsTuple l its.toArray from pl) (by simpa using RZ.intsAre_vals r) (by unfold scanBound; omega) fun h' tk c R hcn hk => ?_
  refine PyProof.Rows.args_nil ?_
  have I2 : Inv X pins σ H1 { s1 with heap := h', toks := tk } := I1.kept (t' := tk) hk
  refine sorted_set (s := { s1 with heap := h', toks := tk }) R hd (by omega) fun s' p out cc ms k g o hp hg3 hi hs hm3 hl => ?_
  have hlen : (ms.map V.int).length ≤ sizeLine := by rw [List.length_map, hl, sizeLine_eq]; omega
  have hn : H1 p = none := I2.hok.fresh hp
  have J := I2.call (ch := []) (g' := s'.gens) (d' := s'.drawn) (t' := s'.toks) (Un.laid k hp hn) (I2.hok.laid k hp (o := .lst (ms.map V.int)) ⟨hlen, out.toList, cc, vals_of_ints hi, hg3⟩) (by rw [g]; exact I2.bare) (fun _ z => nomatch z)
  obtain ⟨h2, g2, d2, t2, o2⟩ := s'
  simp only at o
  subst o
  exact ⟨.ref p, _, J, rfl, q1 ms p hs (fun k => by rw [hm3 k, decide_eq_true_eq]) (by omega) hn⟩⟩
end L2
namespace Z
open PySem PySem.Spec PyProof.Rows L2
variable [TabCtx]
theorem pe_lenSetAK (K : PySem.W.Frag) {X : Cx} {a : Expr} {ta : TE} {p p2 q pos : Pos} (hg : Gl X "len") (hm : X.mg "len" = none) (hg2 : Gl X "set") (hm2 : X.mg "set" = none) (ha : PE X a ta) (hc : X.calm = true := by rfl) (hK : X.K = K := by rfl)
    (na : starEach [a] X.env = (false, eval a X.env) :: starEach [] X.env := by rfl) : PE X (.Call (.Name "len" p) [.Call (.Name "set" p2) [a] [] q] [] pos) (tLenSetA K ta) := by
  subst hK
  exact pe_lenSetA hg hm hg2 hm2 ha hc na
def fLenSetA (fe : DE) : DE := fun δ n K => fe δ n fun d m => ∃ ns : List Int, d = eI ns ∧ ns.length ≤ 4000 ∧ ∀ c : Nat, c ≤ ns.length → (c = ns.length ↔ ns.Nodup) → K (.int (c : Nat)) m
theorem se_lenSetA {K : PySem.W.Frag} {te : TE} {fe : DE} (he : SE te fe) : SE (tLenSetA K te) (fLenSetA fe) := ⟨fun h k q => he.run h k fun d m v H1 ⟨ns, e, l1, k1⟩ g1 l2 d1 => by
  subst e
  obtain ⟨a, rfl, na, ha⟩ := d1.ints
  exact ⟨a, ns, rfl, SqL.of ha, by omega, fun c c1 c2 => q _ _ _ _ (k1 c c1 c2) g1 l2 (.int _)⟩⟩
def fSortSetT (fe : DE) : DI := fun δ n K => fe δ n fun d m => ∃ ns : List Int, d = eC ns ∧ ns.length < 64 ∧ ∀ ms : List Int, ms.Pairwise (· < ·) → (∀ k, k ∈ ms ↔ k ∈ ns) → ms.length ≤ ns.length → K (ms.map .int) m
theorem pe_sortSetTK (K : PySem.W.Frag) {X : Cx} {a : Expr} {ta : TE} {p p2 q pos : Pos} (hg : Gl X "sorted") (hm : X.mg "sorted" = none) (hg2 : Gl X "set") (hm2 : X.mg "set" = none) (ha : PE X a ta) (hc : X.calm = true := by rfl) (hK : X.K = K := by rfl)
    (na : starEach [a] X.env = (false, eval a X.env) :: starEach [] X.env := by rfl) : PE X (.Call (.Name "sorted" p) [.Call (.Name "set" p2) [a] [] q] [] pos) (tSortSetT K ta) := by
  subst hK
  exact pe_sortSetT hg hm hg2 hm2 ha hc na
theorem sn_sortSetT {K : PySem.W.Frag} {te : TE} {fe : DE} (he : SE te fe) : SN (tSortSetT K te) (fSortSetT fe) := ⟨fun {L B O H σ δ n Q K'} h k q => he.run h k fun d m v H1 ⟨ns, e, l6, k1⟩ g1 l1 d1 => by
  subst e
  obtain ⟨a, rfl, _, ha⟩ := d1.col
  refine ⟨a, ns, rfl, SqT.of ha, l6, fun ms p pw hm hl hp => ?_⟩
  exact q _ _ _ _ _ (k1 ms pw hm hl) (g1.trans (Go.of (sm_new hp))) (l1.same (sm_new hp)) (g1.free hp) upd_same (DtA.ints ms)⟩
def fRevO (i : Nat) : DS := fun E δ n => ∃ xs, δ[i]? = some (.o xs) ∧ E.nx (δ.set i (.o xs.reverse)) n
theorem ss_revO {i : Nat} {K : PySem.W.Frag} : SS (tDrop (tBM K "list" rReverse (tVar i) tNil)) (fRevO i) := ⟨fun at' ⟨xs, ei, k⟩ e => by
  obtain ⟨a, vs, ea, ha, hs, hA⟩ := at'.rel.oo i xs ei
  exact ⟨_, ea, .inl ⟨rfl, vs, SqL.of hs⟩, a, vs, rfl, rfl, hs, e.nx k (at'.mut ei ea ha hA.rev)⟩⟩
end Z

set_option Elab.async false
set_option linter.all false
set_option maxRecDepth 100000
namespace Z
open PySem PySem.Spec PyProof.Rows L2
def topS (i : Nat) : Stmt := PySem.Challenge.pw_fewcolours_k20_what_is_a_tree.main.body.getD i (.Pass ⟨0, 0, 0, 0⟩)
abbrev s_is_number : Stmt := topS 1
abbrev N_is_number : List Str := ["thing"]
theorem sc_is_number : FnScope N_is_number ["thing"] (defScope s_is_number) := ⟨rfl, rfl, rfl, by decide +kernel, rfl, by decide +kernel, by decide +kernel⟩
abbrev s_are_rising : Stmt := topS 2
abbrev N_are_rising : List Str := ["things", "thing", "a", "b"]
theorem sc_are_rising : FnScope N_are_rising ["things"] (defScope s_are_rising) := ⟨rfl, rfl, rfl, by decide +kernel, rfl, by decide +kernel, by decide +kernel⟩
abbrev s_is_colour : Stmt := topS 3
abbrev N_is_colour : List Str := ["thing", "wide", "number"]
theorem sc_is_colour : FnScope N_is_colour ["thing", "wide"] (defScope s_is_colour) := ⟨rfl, rfl, rfl, by decide +kernel, rfl, by decide +kernel, by decide +kernel⟩
abbrev s_is_box : Stmt := topS 5
abbrev N_is_box : List Str := ["thing", "wide", "low", "high", "a", "b"]
theorem sc_is_box : FnScope N_is_box ["thing", "wide"] (defScope s_is_box) := ⟨rfl, rfl, rfl, by decide +kernel, rfl, by decide +kernel, by decide +kernel⟩
abbrev s_least_numbers : Stmt := topS 6
abbrev N_least_numbers : List Str := ["colours", "numbers"]
theorem sc_least_numbers : FnScope N_least_numbers ["colours"] (defScope s_least_numbers) := ⟨rfl, rfl, rfl, by decide +kernel, rfl, by decide +kernel, by decide +kernel⟩
abbrev s_greatest_numbers : Stmt := topS 7
abbrev N_greatest_numbers : List Str := ["colours", "numbers"]
theorem sc_greatest_numbers : FnScope N_greatest_numbers ["colours"] (defScope s_greatest_numbers) := ⟨rfl, rfl, rfl, by decide +kernel, rfl, by decide +kernel, by decide +kernel⟩
abbrev s_box_of : Stmt := topS 8
abbrev N_box_of : List Str := ["colours"]
theorem sc_box_of : FnScope N_box_of ["colours"] (defScope s_box_of) := ⟨rfl, rfl, rfl, by decide +kernel, rfl, by decide +kernel, by decide +kernel⟩
abbrev s_are_some : Stmt := topS 10
abbrev N_are_some : List Str := ["palette", "numbers"]
theorem sc_are_some : FnScope N_are_some ["palette", "numbers"] (defScope s_are_some) := ⟨rfl, rfl, rfl, by decide +kernel, rfl, by decide +kernel, by decide +kernel⟩
abbrev s_is_just_box : Stmt := topS 11
abbrev N_is_just_box : List Str := ["palette", "box", "numbers", "number"]
theorem sc_is_just_box : FnScope N_is_just_box ["palette", "box", "numbers"] (defScope s_is_just_box) := ⟨rfl, rfl, rfl, by decide +kernel, rfl, by decide +kernel, by decide +kernel⟩
abbrev s_numbers_of_leaf : Stmt := topS 12
abbrev N_numbers_of_leaf : List Str := ["palette", "most", "numbers"]
theorem sc_numbers_of_leaf : FnScope N_numbers_of_leaf ["palette", "most", "numbers"] (defScope s_numbers_of_leaf) := ⟨rfl, rfl, rfl, by decide +kernel, rfl, by decide +kernel, by decide +kernel⟩
abbrev s_numbers_of_halves : Stmt := topS 13
abbrev N_numbers_of_halves : List Str := ["palette", "most", "one", "other", "first", "second", "both"]
theorem sc_numbers_of_halves : FnScope N_numbers_of_halves ["palette", "most", "one", "other"] (defScope s_numbers_of_halves) := ⟨rfl, rfl, rfl, by decide +kernel, rfl, by decide +kernel, by decide +kernel⟩
abbrev s_numbers_of_node : Stmt := topS 14
abbrev N_numbers_of_node : List Str := ["palette", "most", "thing", "numbers"]
theorem sc_numbers_of_node : FnScope N_numbers_of_node ["palette", "most", "thing"] (defScope s_numbers_of_node) := ⟨rfl, rfl, rfl, by decide +kernel, rfl, by decide +kernel, by decide +kernel⟩
abbrev s_is_tree : Stmt := topS 15
abbrev N_is_tree : List Str := ["palette", "most", "thing"]
theorem sc_is_tree : FnScope N_is_tree ["palette", "most", "thing"] (defScope s_is_tree) := ⟨rfl, rfl, rfl, by decide +kernel, rfl, by decide +kernel, by decide +kernel⟩
abbrev s_l_mix : Stmt := topS 17
abbrev N_l_mix : List Str := ["_law_cell", "_law_k", "_law_m"]
theorem sc_l_mix : FnScope N_l_mix ["_law_cell", "_law_k"] (defScope s_l_mix) := ⟨rfl, rfl, rfl, by decide +kernel, rfl, by decide +kernel, by decide +kernel⟩
abbrev s_l_left : Stmt := topS 18
abbrev N_l_left : List Str := ["_law_script", "_law_k", "_law_cell"]
theorem sc_l_left : FnScope N_l_left ["_law_script", "_law_k"] (defScope s_l_left) := ⟨rfl, rfl, rfl, by decide +kernel, rfl, by decide +kernel, by decide +kernel⟩
abbrev s_l_pick : Stmt := topS 19
abbrev N_l_pick : List Str := ["_law_left_here", "_law_many", "_law_digit"]
theorem sc_l_pick : FnScope N_l_pick ["_law_left_here", "_law_many"] (defScope s_l_pick) := ⟨rfl, rfl, rfl, by decide +kernel, rfl, by decide +kernel, by decide +kernel⟩
abbrev s_l_kind : Stmt := topS 20
abbrev N_l_kind : List Str := ["_law_left_here"]
theorem sc_l_kind : FnScope N_l_kind ["_law_left_here"] (defScope s_l_kind) := ⟨rfl, rfl, rfl, by decide +kernel, rfl, by decide +kernel, by decide +kernel⟩
abbrev s_l_colour : Stmt := topS 21
abbrev N_l_colour : List Str := ["_law_left_here", "_law_kind_here", "_law_wide", "_law_span", "_law_place"]
theorem sc_l_colour : FnScope N_l_colour ["_law_left_here", "_law_kind_here"] (defScope s_l_colour) := ⟨rfl, rfl, rfl, by decide +kernel, rfl, by decide +kernel, by decide +kernel⟩
abbrev s_l_palette : Stmt := topS 22
abbrev N_l_palette : List Str := ["_law_left_here", "_law_kind_here", "_law_many", "_law_found", "_law_k", "_law_colour_here"]
theorem sc_l_palette : FnScope N_l_palette ["_law_left_here", "_law_kind_here"] (defScope s_l_palette) := ⟨rfl, rfl, rfl, by decide +kernel, rfl, by decide +kernel, by decide +kernel⟩
abbrev s_l_same : Stmt := topS 23
abbrev N_l_same : List Str := ["_law_found", "_law_due", "_law_one", "_law_other"]
theorem sc_l_same : FnScope N_l_same ["_law_found", "_law_due"] (defScope s_l_same) := ⟨rfl, rfl, rfl, by decide +kernel, rfl, by decide +kernel, by decide +kernel⟩
abbrev s_l_shuffled : Stmt := topS 24
abbrev N_l_shuffled : List Str := ["_law_left_here", "_law_some", "_law_found", "_law_one"]
theorem sc_l_shuffled : FnScope N_l_shuffled ["_law_left_here", "_law_some"] (defScope s_l_shuffled) := ⟨rfl, rfl, rfl, by decide +kernel, rfl, by decide +kernel, by decide +kernel⟩
abbrev s_l_box : Stmt := topS 25
abbrev N_l_box : List Str := ["_law_colours", "_law_wide", "_law_low", "_law_place", "_law_colour_here"]
theorem sc_l_box : FnScope N_l_box ["_law_colours"] (defScope s_l_box) := ⟨rfl, rfl, rfl, by decide +kernel, rfl, by decide +kernel, by decide +kernel⟩
abbrev s_l_tree_made : Stmt := topS 26
abbrev N_l_tree_made : List Str := ["_law_left_here", "_law_palette_here", "_law_numbers", "_law_most", "_law_box_here", "_law_order", "_law_half", "_law_one", "_law_number"]
theorem sc_l_tree_made : FnScope N_l_tree_made ["_law_left_here", "_law_palette_here", "_law_numbers", "_law_most"] (defScope s_l_tree_made) := ⟨rfl, rfl, rfl, by decide +kernel, rfl, by decide +kernel, by decide +kernel⟩
abbrev s_l_all_of : Stmt := topS 27
abbrev N_l_all_of : List Str := ["_law_palette_here"]
theorem sc_l_all_of : FnScope N_l_all_of ["_law_palette_here"] (defScope s_l_all_of) := ⟨rfl, rfl, rfl, by decide +kernel, rfl, by decide +kernel, by decide +kernel⟩
abbrev s_l_is_box : Stmt := topS 28
abbrev N_l_is_box : List Str := ["_law_thing", "_law_colours"]
theorem sc_l_is_box : FnScope N_l_is_box ["_law_thing", "_law_colours"] (defScope s_l_is_box) := ⟨rfl, rfl, rfl, by decide +kernel, rfl, by decide +kernel, by decide +kernel⟩
abbrev s_l_are_numbers : Stmt := topS 29
abbrev N_l_are_numbers : List Str := ["_law_palette_here", "_law_thing", "_law_number", "_law_one", "_law_other"]
theorem sc_l_are_numbers : FnScope N_l_are_numbers ["_law_palette_here", "_law_thing"] (defScope s_l_are_numbers) := ⟨rfl, rfl, rfl, by decide +kernel, rfl, by decide +kernel, by decide +kernel⟩
abbrev s_l_tree_numbers : Stmt := topS 30
abbrev N_l_tree_numbers : List Str := ["_law_palette_here", "_law_most", "_law_thing", "_law_found", "_law_one", "_law_other", "_law_number"]
theorem sc_l_tree_numbers : FnScope N_l_tree_numbers ["_law_palette_here", "_law_most", "_law_thing"] (defScope s_l_tree_numbers) := ⟨rfl, rfl, rfl, by decide +kernel, rfl, by decide +kernel, by decide +kernel⟩
abbrev s_l_tree_right : Stmt := topS 31
abbrev N_l_tree_right : List Str := ["_law_palette_here", "_law_most", "_law_thing"]
theorem sc_l_tree_right : FnScope N_l_tree_right ["_law_palette_here", "_law_most", "_law_thing"] (defScope s_l_tree_right) := ⟨rfl, rfl, rfl, by decide +kernel, rfl, by decide +kernel, by decide +kernel⟩
abbrev s_l_leaves : Stmt := topS 32
abbrev N_l_leaves : List Str := ["_law_node"]
theorem sc_l_leaves : FnScope N_l_leaves ["_law_node"] (defScope s_l_leaves) := ⟨rfl, rfl, rfl, by decide +kernel, rfl, by decide +kernel, by decide +kernel⟩
abbrev s_l_any : Stmt := topS 33
abbrev N_l_any : List Str := ["_law_left_here", "_law_deep", "_law_some", "_law_parts", "_law_k"]
theorem sc_l_any : FnScope N_l_any ["_law_left_here", "_law_deep"] (defScope s_l_any) := ⟨rfl, rfl, rfl, by decide +kernel, rfl, by decide +kernel, by decide +kernel⟩
abbrev s_l_uneven : Stmt := topS 34
abbrev N_l_uneven : List Str := ["_law_left_here", "_law_palette_here", "_law_numbers", "_law_most", "_law_half", "_law_sides", "_law_at", "_law_some", "_law_number"]
theorem sc_l_uneven : FnScope N_l_uneven ["_law_left_here", "_law_palette_here", "_law_numbers", "_law_most"] (defScope s_l_uneven) := ⟨rfl, rfl, rfl, by decide +kernel, rfl, by decide +kernel, by decide +kernel⟩
abbrev s_l_greater : Stmt := topS 35
abbrev N_l_greater : List Str := ["_law_left_here", "_law_box_here", "_law_at", "_law_by", "_law_high", "_law_low"]
theorem sc_l_greater : FnScope N_l_greater ["_law_left_here", "_law_box_here"] (defScope s_l_greater) := ⟨rfl, rfl, rfl, by decide +kernel, rfl, by decide +kernel, by decide +kernel⟩
abbrev s_l_box_bent : Stmt := topS 36
abbrev N_l_box_bent : List Str := ["_law_left_here", "_law_box_here", "_law_some", "_law_number"]
theorem sc_l_box_bent : FnScope N_l_box_bent ["_law_left_here", "_law_box_here"] (defScope s_l_box_bent) := ⟨rfl, rfl, rfl, by decide +kernel, rfl, by decide +kernel, by decide +kernel⟩
abbrev s_l_leaf_bent : Stmt := topS 37
abbrev N_l_leaf_bent : List Str := ["_law_left_here", "_law_palette_here", "_law_node", "_law_word", "_law_box_here", "_law_numbers", "_law_one", "_law_more", "_law_some", "_law_way"]
theorem sc_l_leaf_bent : FnScope N_l_leaf_bent ["_law_left_here", "_law_palette_here", "_law_node"] (defScope s_l_leaf_bent) := ⟨rfl, rfl, rfl, by decide +kernel, rfl, by decide +kernel, by decide +kernel⟩
abbrev s_l_bent : Stmt := topS 38
abbrev N_l_bent : List Str := ["_law_left_here", "_law_palette_here", "_law_node", "_law_at", "_law_some"]
theorem sc_l_bent : FnScope N_l_bent ["_law_left_here", "_law_palette_here", "_law_node"] (defScope s_l_bent) := ⟨rfl, rfl, rfl, by decide +kernel, rfl, by decide +kernel, by decide +kernel⟩
abbrev s_l_under : Stmt := topS 39
abbrev N_l_under : List Str := ["_law_node", "_law_found", "_law_box_here", "_law_numbers"]
theorem sc_l_under : FnScope N_l_under ["_law_node"] (defScope s_l_under) := ⟨rfl, rfl, rfl, by decide +kernel, rfl, by decide +kernel, by decide +kernel⟩
abbrev s_l_as_due : Stmt := topS 40
abbrev N_l_as_due : List Str := ["_law_palette_here", "_law_most", "_law_thing", "_law_ahead", "_law_found"]
theorem sc_l_as_due : FnScope N_l_as_due ["_law_palette_here", "_law_most", "_law_thing"] (defScope s_l_as_due) := ⟨rfl, rfl, rfl, by decide +kernel, rfl, by decide +kernel, by decide +kernel⟩
abbrev s_law : Stmt := topS 41
abbrev N_law : List Str := ["_law_script", "_law_k", "_law_left_here", "_law_palette_here", "_law_most", "_law_tree", "_law_uneven_here", "_law_turn"]
theorem sc_law : FnScope N_law ["_law_script"] (defScope s_law) := ⟨rfl, rfl, rfl, by decide +kernel, rfl, by decide +kernel, by decide +kernel⟩
set_option maxHeartbeats 2000000
structure Tx (K : PySem.W.Frag) (mg : Str → Option Value) where
  f_is_number : Addr
  d_is_number : FuncData
  F_is_number : Fun K "is_number" "is_number" s_is_number f_is_number d_is_number
  b_is_number : Binds K d_is_number ["thing"] []
  g_is_number : mg "is_number" = some (.ref f_is_number)
  f_are_rising : Addr
  d_are_rising : FuncData
  F_are_rising : Fun K "are_rising" "are_rising" s_are_rising f_are_rising d_are_rising
  b_are_rising : Binds K d_are_rising ["things"] []
  g_are_rising : mg "are_rising" = some (.ref f_are_rising)
  f_is_colour : Addr
  d_is_colour : FuncData
  F_is_colour : Fun K "is_colour" "is_colour" s_is_colour f_is_colour d_is_colour
  b_is_colour : Binds K d_is_colour ["thing", "wide"] []
  g_is_colour : mg "is_colour" = some (.ref f_is_colour)
  f_is_box : Addr
  d_is_box : FuncData
  F_is_box : Fun K "is_box" "is_box" s_is_box f_is_box d_is_box
  b_is_box : Binds K d_is_box ["thing", "wide"] []
  g_is_box : mg "is_box" = some (.ref f_is_box)
  f_least_numbers : Addr
  d_least_numbers : FuncData
  F_least_numbers : Fun K "least_numbers" "least_numbers" s_least_numbers f_least_numbers d_least_numbers
  b_least_numbers : Binds K d_least_numbers ["colours"] []
  g_least_numbers : mg "least_numbers" = some (.ref f_least_numbers)
  f_greatest_numbers : Addr
  d_greatest_numbers : FuncData
  F_greatest_numbers : Fun K "greatest_numbers" "greatest_numbers" s_greatest_numbers f_greatest_numbers d_greatest_numbers
  b_greatest_numbers : Binds K d_greatest_numbers ["colours"] []
  g_greatest_numbers : mg "greatest_numbers" = some (.ref f_greatest_numbers)
  f_box_of : Addr
  d_box_of : FuncData
  F_box_of : Fun K "box_of" "box_of" s_box_of f_box_of d_box_of
  b_box_of : Binds K d_box_of ["colours"] []
  g_box_of : mg "box_of" = some (.ref f_box_of)
  f_are_some : Addr
  d_are_some : FuncData
  F_are_some : Fun K "are_some" "are_some" s_are_some f_are_some d_are_some
  b_are_some : Binds K d_are_some ["palette", "numbers"] []
  g_are_some : mg "are_some" = some (.ref f_are_some)
  f_is_just_box : Addr
  d_is_just_box : FuncData
  F_is_just_box : Fun K "is_just_box" "is_just_box" s_is_just_box f_is_just_box d_is_just_box
  b_is_just_box : Binds K d_is_just_box ["palette", "box", "numbers"] []
  g_is_just_box : mg "is_just_box" = some (.ref f_is_just_box)
  f_numbers_of_leaf : Addr
  d_numbers_of_leaf : FuncData
  F_numbers_of_leaf : Fun K "numbers_of_leaf" "numbers_of_leaf" s_numbers_of_leaf f_numbers_of_leaf d_numbers_of_leaf
  b_numbers_of_leaf : Binds K d_numbers_of_leaf ["palette", "most", "numbers"] []
  g_numbers_of_leaf : mg "numbers_of_leaf" = some (.ref f_numbers_of_leaf)
  f_numbers_of_halves : Addr
  d_numbers_of_halves : FuncData
  F_numbers_of_halves : Fun K "numbers_of_halves" "numbers_of_halves" s_numbers_of_halves f_numbers_of_halves d_numbers_of_halves
  b_numbers_of_halves : Binds K d_numbers_of_halves ["palette", "most", "one", "other"] []
  g_numbers_of_halves : mg "numbers_of_halves" = some (.ref f_numbers_of_halves)
  f_numbers_of_node : Addr
  d_numbers_of_node : FuncData
  F_numbers_of_node : Fun K "numbers_of_node" "numbers_of_node" s_numbers_of_node f_numbers_of_node d_numbers_of_node
  b_numbers_of_node : Binds K d_numbers_of_node ["palette", "most", "thing"] []
  g_numbers_of_node : mg "numbers_of_node" = some (.ref f_numbers_of_node)
  f_is_tree : Addr
  d_is_tree : FuncData
  F_is_tree : Fun K "is_tree" "is_tree" s_is_tree f_is_tree d_is_tree
  b_is_tree : Binds K d_is_tree ["palette", "most", "thing"] []
  g_is_tree : mg "is_tree" = some (.ref f_is_tree)
  f_l_mix : Addr
  d_l_mix : FuncData
  F_l_mix : Fun K "_law_mix" "_law_mix" s_l_mix f_l_mix d_l_mix
  b_l_mix : Binds K d_l_mix ["_law_cell", "_law_k"] []
  g_l_mix : mg "_law_mix" = some (.ref f_l_mix)
  f_l_left : Addr
  d_l_left : FuncData
  F_l_left : Fun K "_law_left" "_law_left" s_l_left f_l_left d_l_left
  b_l_left : Binds K d_l_left ["_law_script", "_law_k"] []
  g_l_left : mg "_law_left" = some (.ref f_l_left)
  f_l_pick : Addr
  d_l_pick : FuncData
  F_l_pick : Fun K "_law_pick" "_law_pick" s_l_pick f_l_pick d_l_pick
  b_l_pick : Binds K d_l_pick ["_law_left_here", "_law_many"] []
  g_l_pick : mg "_law_pick" = some (.ref f_l_pick)
  f_l_kind : Addr
  d_l_kind : FuncData
  F_l_kind : Fun K "_law_kind" "_law_kind" s_l_kind f_l_kind d_l_kind
  b_l_kind : Binds K d_l_kind ["_law_left_here"] []
  g_l_kind : mg "_law_kind" = some (.ref f_l_kind)
  f_l_colour : Addr
  d_l_colour : FuncData
  F_l_colour : Fun K "_law_colour" "_law_colour" s_l_colour f_l_colour d_l_colour
  b_l_colour : Binds K d_l_colour ["_law_left_here", "_law_kind_here"] []
  g_l_colour : mg "_law_colour" = some (.ref f_l_colour)
  f_l_palette : Addr
  d_l_palette : FuncData
  F_l_palette : Fun K "_law_palette" "_law_palette" s_l_palette f_l_palette d_l_palette
  b_l_palette : Binds K d_l_palette ["_law_left_here", "_law_kind_here"] []
  g_l_palette : mg "_law_palette" = some (.ref f_l_palette)
  f_l_same : Addr
  d_l_same : FuncData
  F_l_same : Fun K "_law_same" "_law_same" s_l_same f_l_same d_l_same
  b_l_same : Binds K d_l_same ["_law_found", "_law_due"] []
  g_l_same : mg "_law_same" = some (.ref f_l_same)
  f_l_shuffled : Addr
  d_l_shuffled : FuncData
  F_l_shuffled : Fun K "_law_shuffled" "_law_shuffled" s_l_shuffled f_l_shuffled d_l_shuffled
  b_l_shuffled : Binds K d_l_shuffled ["_law_left_here", "_law_some"] []
  g_l_shuffled : mg "_law_shuffled" = some (.ref f_l_shuffled)
  f_l_box : Addr
  d_l_box : FuncData
  F_l_box : Fun K "_law_box" "_law_box" s_l_box f_l_box d_l_box
  b_l_box : Binds K d_l_box ["_law_colours"] []
  g_l_box : mg "_law_box" = some (.ref f_l_box)
  f_l_tree_made : Addr
  d_l_tree_made : FuncData
  F_l_tree_made : Fun K "_law_tree_made" "_law_tree_made" s_l_tree_made f_l_tree_made d_l_tree_made
  b_l_tree_made : Binds K d_l_tree_made ["_law_left_here", "_law_palette_here", "_law_numbers", "_law_most"] []
  g_l_tree_made : mg "_law_tree_made" = some (.ref f_l_tree_made)
  f_l_all_of : Addr
  d_l_all_of : FuncData
  F_l_all_of : Fun K "_law_all_of" "_law_all_of" s_l_all_of f_l_all_of d_l_all_of
  b_l_all_of : Binds K d_l_all_of ["_law_palette_here"] []
  g_l_all_of : mg "_law_all_of" = some (.ref f_l_all_of)
  f_l_is_box : Addr
  d_l_is_box : FuncData
  F_l_is_box : Fun K "_law_is_box" "_law_is_box" s_l_is_box f_l_is_box d_l_is_box
  b_l_is_box : Binds K d_l_is_box ["_law_thing", "_law_colours"] []
  g_l_is_box : mg "_law_is_box" = some (.ref f_l_is_box)
  f_l_are_numbers : Addr
  d_l_are_numbers : FuncData
  F_l_are_numbers : Fun K "_law_are_numbers" "_law_are_numbers" s_l_are_numbers f_l_are_numbers d_l_are_numbers
  b_l_are_numbers : Binds K d_l_are_numbers ["_law_palette_here", "_law_thing"] []
  g_l_are_numbers : mg "_law_are_numbers" = some (.ref f_l_are_numbers)
  f_l_tree_numbers : Addr
  d_l_tree_numbers : FuncData
  F_l_tree_numbers : Fun K "_law_tree_numbers" "_law_tree_numbers" s_l_tree_numbers f_l_tree_numbers d_l_tree_numbers
  b_l_tree_numbers : Binds K d_l_tree_numbers ["_law_palette_here", "_law_most", "_law_thing"] []
  g_l_tree_numbers : mg "_law_tree_numbers" = some (.ref f_l_tree_numbers)
  f_l_tree_right : Addr
  d_l_tree_right : FuncData
  F_l_tree_right : Fun K "_law_tree_right" "_law_tree_right" s_l_tree_right f_l_tree_right d_l_tree_right
  b_l_tree_right : Binds K d_l_tree_right ["_law_palette_here", "_law_most", "_law_thing"] []
  g_l_tree_right : mg "_law_tree_right" = some (.ref f_l_tree_right)
  f_l_leaves : Addr
  d_l_leaves : FuncData
  F_l_leaves : Fun K "_law_leaves" "_law_leaves" s_l_leaves f_l_leaves d_l_leaves
  b_l_leaves : Binds K d_l_leaves ["_law_node"] []
  g_l_leaves : mg "_law_leaves" = some (.ref f_l_leaves)
  f_l_any : Addr
  d_l_any : FuncData
  F_l_any : Fun K "_law_any" "_law_any" s_l_any f_l_any d_l_any
  b_l_any : Binds K d_l_any ["_law_left_here", "_law_deep"] []
  g_l_any : mg "_law_any" = some (.ref f_l_any)
  f_l_uneven : Addr
  d_l_uneven : FuncData
  F_l_uneven : Fun K "_law_uneven" "_law_uneven" s_l_uneven f_l_uneven d_l_uneven
  b_l_uneven : Binds K d_l_uneven ["_law_left_here", "_law_palette_here", "_law_numbers", "_law_most"] []
  g_l_uneven : mg "_law_uneven" = some (.ref f_l_uneven)
  f_l_greater : Addr
  d_l_greater : FuncData
  F_l_greater : Fun K "_law_greater" "_law_greater" s_l_greater f_l_greater d_l_greater
  b_l_greater : Binds K d_l_greater ["_law_left_here", "_law_box_here"] []
  g_l_greater : mg "_law_greater" = some (.ref f_l_greater)
  f_l_box_bent : Addr
  d_l_box_bent : FuncData
  F_l_box_bent : Fun K "_law_box_bent" "_law_box_bent" s_l_box_bent f_l_box_bent d_l_box_bent
  b_l_box_bent : Binds K d_l_box_bent ["_law_left_here", "_law_box_here"] []
  g_l_box_bent : mg "_law_box_bent" = some (.ref f_l_box_bent)
  f_l_leaf_bent : Addr
  d_l_leaf_bent : FuncData
  F_l_leaf_bent : Fun K "_law_leaf_bent" "_law_leaf_bent" s_l_leaf_bent f_l_leaf_bent d_l_leaf_bent
  b_l_leaf_bent : Binds K d_l_leaf_bent ["_law_left_here", "_law_palette_here", "_law_node"] []
  g_l_leaf_bent : mg "_law_leaf_bent" = some (.ref f_l_leaf_bent)
  f_l_bent : Addr
  d_l_bent : FuncData
  F_l_bent : Fun K "_law_bent" "_law_bent" s_l_bent f_l_bent d_l_bent
  b_l_bent : Binds K d_l_bent ["_law_left_here", "_law_palette_here", "_law_node"] []
  g_l_bent : mg "_law_bent" = some (.ref f_l_bent)
  f_l_under : Addr
  d_l_under : FuncData
  F_l_under : Fun K "_law_under" "_law_under" s_l_under f_l_under d_l_under
  b_l_under : Binds K d_l_under ["_law_node"] []
  g_l_under : mg "_law_under" = some (.ref f_l_under)
  f_l_as_due : Addr
  d_l_as_due : FuncData
  F_l_as_due : Fun K "_law_as_due" "_law_as_due" s_l_as_due f_l_as_due d_l_as_due
  b_l_as_due : Binds K d_l_as_due ["_law_palette_here", "_law_most", "_law_thing"] []
  g_l_as_due : mg "_law_as_due" = some (.ref f_l_as_due)
  z_abs : mg "abs" = none
  z_all : mg "all" = none
  z_bool : mg "bool" = none
  z_int : mg "int" = none
  z_isinstance : mg "isinstance" = none
  z_len : mg "len" = none
  z_list : mg "list" = none
  z_max : mg "max" = none
  z_min : mg "min" = none
  z_range : mg "range" = none
  z_set : mg "set" = none
  z_sorted : mg "sorted" = none
  z_str : mg "str" = none
  z_tuple : mg "tuple" = none
  z_zip : mg "zip" = none
set_option maxHeartbeats 200000
section
variable [TabCtx] {P : Program} {w : World} {K : PySem.W.Frag} {mg : Str → Option Value} {base : Heap}
/-! ### mix -/
def spMix : Sp := fun vs H Q _ => ∃ c n : Int, vs = [.int c, .int n] ∧ 0 ≤ n ∧ n < 2000000000 ∧ ∀ r : Int, 0 ≤ r → r < 1999999973 → Q (.int r) H
theorem ok_l_mix (T : Tx K mg) {k : Nat} : FnOk P w K mg base CX0 (k + 1) T.f_l_mix T.d_l_mix ["_law_cell", "_law_k"] spMix := by
  refine T.F_l_mix.ok sc_l_mix (fun vs H Q E h => ?_) (fun cdv A outer s H vs Q E hr h => ?_)
  · obtain ⟨c, n, rfl, _⟩ := h
    rfl
  · obtain ⟨c, n, rfl, h1, h2, q⟩ := h
    refine ⟨_, (pss_cons (ps_set (i := 2) sc_l_mix.nd rfl (.inl rfl) (pe_op op_mod (pe_op op_mul (pe_op op_add (pe_op op_add (pe_op op_mod (pv 0) pe_int) (pe_op op_mul (pe_op op_mul (pv 1) (pv 1)) pe_int)) pe_int) pe_int) pe_int))
      (pss_one (ps_ret (pe_op op_mod (pe_op op_mul (pv 2) (pv 2)) pe_int)))), ?_⟩
    refine ⟨.int c, rfl, _, _, rfl, rfl, md (by decide), .int n, rfl, .int n, rfl, _, _, rfl, rfl, .inl ⟨by omega, by omega⟩, _, _, rfl, rfl, .inr ⟨by decide, by decide⟩, _, _, rfl, rfl, _, _, rfl, rfl, _, _, rfl, rfl, .inr ⟨by decide, by decide⟩, _, _, rfl, rfl, md (by decide), ?_⟩
    refine ⟨_, rfl, _, rfl, _, _, rfl, rfl, .inl ⟨?_, ?_⟩, _, _, rfl, rfl, md (by decide), ?_⟩
    · omega
    · omega
    · exact q _ (Int.emod_nonneg _ (by decide)) (Int.emod_lt_of_pos _ (by decide))
/-! ### left -/
def spLeft (K : PySem.W.Frag) : Sp := fun vs H Q _ => ∃ (a : Addr) (ns : List Int) (n : Int), vs = [.ref a, .int n] ∧ SqL K H a (ns.map V.int) ∧ 0 ≤ n ∧ ∀ (p : Addr) (x y : Int), H p = none → 0 ≤ x → Q (.ref p) (upd H p (.lst [.int x, .int y, .int 0]))
theorem left_end {c n : Int} {H : Hp} {Q : VK} (q : ∀ (p : Addr) (x y : Int), H p = none → 0 ≤ x → Q (.ref p) (upd H p (.lst [.int x, .int y, .int 0]))) (p : Addr) (hp : H p = none) (b : Bool) :
    Q (.ref p) (upd H p (.lst [.int ((if c < 0 then -c else c) * (if b = true then 1 else 0)), .int (c + 1000003 * n), .int 0])) := by
  refine q p _ _ hp ?_
  cases b <;> simp <;> split <;> omega
theorem ok_l_left (T : Tx K mg) {k : Nat} : FnOk P w K mg base CX0 (k + 1) T.f_l_left T.d_l_left ["_law_script", "_law_k"] (spLeft K) := by
  refine T.F_l_left.ok sc_l_left (fun vs H Q E h => ?_) (fun cdv A outer s H vs Q E hr h => ?_)
  · obtain ⟨a, ns, n, rfl, _⟩ := h
    rfl
  · obtain ⟨a, ns, n, rfl, hS, h1, q⟩ := h
    refine ⟨_, (pss_cons (ps_set (i := 2) sc_l_left.nd rfl (.inl rfl) (pe_ifExp (pt_cmpR op_lt (pv 1) (pe_callB (len_K K) (by rfl) T.z_len PySem.boot_len (pa_cons (pv 0) pa_nil)) (nomark _)) (pe_ix (ix_listK K) (pv 0) (pv 1) (fun _ _ => rfl)) pe_int))
      (pss_one (ps_ret (pe_lst (pa_cons (pe_op op_mul (pe_callB call_abs (by rfl) T.z_abs (by decide +kernel) (pa_cons (pv 2) pa_nil)) (pe_callTy call_int1 (by rfl) T.z_int (by decide +kernel) (pa_cons (pe_cmpR op_ge (pe_callB call_abs (by rfl) T.z_abs (by decide +kernel) (pa_cons (pv 2) pa_nil)) (pe_op op_pow pe_int pe_int) (nomark _)) pa_nil))) (pa_cons (pe_op op_add (pv 2) (pe_op op_mul pe_int (pv 1))) (pa_cons pe_int pa_nil))))))), ?_⟩
    refine ⟨_, rfl, _, rfl, a, _, rfl, .inl hS, _, _, rfl, rfl, _, rfl, ite2 (fun e => ?_) (fun e => ?_)⟩
    · have e1 : n < (ns.map V.int).length := of_decide_eq_true e
      rw [List.length_map] at e1
      have g : atI (ns.map V.int) n = some (.int (ns[n.toNat]'(by omega))) := at0 h1 (by rw [List.getElem?_map, List.getElem?_eq_getElem]; rfl)
      refine ⟨_, rfl, _, rfl, a, _, _, _, rfl, rfl, hS, g, ?_⟩
      exact ⟨_, rfl, _, rfl, _, rfl, _, rfl, _, _, rfl, rfl, ⟨by decide, by decide, by decide⟩, _, _, rfl, rfl, .inr ⟨_, rfl, _, _, rfl, rfl, .inr (bit_ok _), _, rfl, _, rfl, _, _, rfl, rfl, .inl ⟨by decide, by decide⟩, _, _, rfl, rfl, (by show 3 ≤ sizeLine; decide), fun p hp => left_end q p hp _⟩⟩
    · exact ⟨_, rfl, _, rfl, _, rfl, _, rfl, _, _, rfl, rfl, ⟨by decide, by decide, by decide⟩, _, _, rfl, rfl, .inr ⟨_, rfl, _, _, rfl, rfl, .inr (bit_ok _), _, rfl, _, rfl, _, _, rfl, rfl, .inl ⟨by decide, by decide⟩, _, _, rfl, rfl, (by show 3 ≤ sizeLine; decide), fun p hp => left_end q p hp _⟩⟩
/-! ### pick -/
def spPick : Sp := fun vs H Q _ => ∃ (L : Addr) (m : Int) (n : Nat), vs = [.ref L, .int m] ∧ Lf L H n ∧ n < 1000000000 ∧ 0 < m ∧ m < 1073741824 ∧ ∀ (r : Int) (H' : Hp), Go [L] H H' → Lf L H' (n + 1) → 0 ≤ r → r < m → Q (.int r) H'
theorem ok_l_pick (T : Tx K mg) {k : Nat} : FnOk P w K mg base CX0 (k + 2) T.f_l_pick T.d_l_pick ["_law_left_here", "_law_many"] spPick := by
  refine T.F_l_pick.ok sc_l_pick (fun vs H Q E h => ?_) (fun cdv A outer s H vs Q E hr h => ?_)
  · obtain ⟨L, m, n, rfl, _⟩ := h
    rfl
  · obtain ⟨L, m, n, rfl, ⟨a, b, c, hL, a0, c0, cn⟩, hn, m0, m1, q⟩ := h
    refine ⟨_, (pss_cons (ps_asg (pe_op op_add (pe_ix (ix_listK K) (pv 0) pe_int (fun _ _ => rfl)) pe_int) (pg_sub (pv 0) pe_int set_list))
      (pss_cons (ps_if (pt_cmpR op_gt (pe_ix (ix_listK K) (pv 0) pe_int (fun _ _ => rfl)) pe_int (nomark _)) (pss_cons (ps_set (i := 2) sc_l_pick.nd rfl (.inl rfl) (pe_op op_mod (pe_ix (ix_listK K) (pv 0) pe_int (fun _ _ => rfl)) (pv 1)))
      (pss_cons (ps_asg (pe_op op_fdiv (pe_ix (ix_listK K) (pv 0) pe_int (fun _ _ => rfl)) (pv 1)) (pg_sub (pv 0) pe_int set_list))
      (pss_one (ps_ret (pv 2))))) pss_nil)
      (pss_one (ps_ret (pe_op op_mod (pe_op op_fdiv (pe_call (ok_l_mix T (k := k)) hr (by rfl) T.g_l_mix T.F_l_mix.kp T.b_l_mix .nil pass0 (pa_cons (pe_call (ok_l_mix T (k := k)) hr (by rfl) T.g_l_mix T.F_l_mix.kp T.b_l_mix .nil pass0 (pa_cons (pe_ix (ix_listK K) (pv 0) pe_int (fun _ _ => rfl)) (pa_cons (pe_ix (ix_listK K) (pv 0) pe_int (fun _ _ => rfl)) pa_nil))) (pa_cons (pe_op op_add (pe_ix (ix_listK K) (pv 0) pe_int (fun _ _ => rfl)) pe_int) pa_nil))) pe_int) (pv 1)))))), ?_⟩
    refine ⟨_, rfl, L, _, 2, .int c, rfl, rfl, SqL.of hL, rfl, _, _, rfl, rfl, _, rfl, L, _, _, 2, rfl, rfl, hL, rfl, ?_⟩
    generalize hH : upd H L (.lst (List.set [V.int a, V.int b, V.int c] 2 (V.int (c + 1)))) = H1
    have hL1 : H1 L = some (.lst [.int a, .int b, .int (c + 1)]) := by rw [← hH]; exact upd_same
    have g1 : Go [L] H H1 := by rw [← hH]; exact Go.refl.at (List.mem_singleton.mpr rfl)
    refine ⟨_, rfl, L, _, 0, .int a, rfl, rfl, SqL.of hL1, rfl, _, _, rfl, rfl, _, rfl, ite2 (fun e => ?_) (fun e => ?_)⟩
    · have e1 : 0 < a := of_decide_eq_true e
      refine ⟨_, rfl, L, _, 0, .int a, rfl, rfl, SqL.of hL1, rfl, _, rfl, _, _, rfl, rfl, md m0, ?_⟩
      refine ⟨_, rfl, L, _, 0, .int a, rfl, rfl, SqL.of hL1, rfl, _, rfl, _, _, rfl, rfl, ⟨m0, m1⟩, _, rfl, L, _, _, 0, rfl, rfl, hL1, rfl, ?_⟩
      refine ⟨_, rfl, ?_⟩
      exact q _ _ (g1.at (List.mem_singleton.mpr rfl)) ⟨a / m, b, c + 1, upd_same, Int.ediv_nonneg a0 (by omega), by omega, by omega⟩ (Int.emod_nonneg _ (by omega)) (Int.emod_lt_of_pos _ m0)
    · refine ⟨_, rfl, L, _, 1, .int b, rfl, rfl, SqL.of hL1, rfl, _, rfl, L, _, 2, .int (c + 1), rfl, rfl, SqL.of hL1, rfl, _, _, rfl, by omega, by omega, fun r1 _ _ => ?_⟩
      refine ⟨_, rfl, L, _, 2, .int (c + 1), rfl, rfl, SqL.of hL1, rfl, _, _, rfl, rfl, _, _, rfl, by omega, by omega, fun r2 _ _ => ?_⟩
      refine ⟨_, _, rfl, rfl, ⟨by decide, by decide⟩, _, rfl, _, _, rfl, rfl, md m0, ?_⟩
      exact q _ _ g1 ⟨a, b, c + 1, hL1, a0, by omega, by omega⟩ (Int.emod_nonneg _ (by omega)) (Int.emod_lt_of_pos _ m0)
/-! ### numbers and colours of any data -/
def isNum : PyData → Bool
  | .int _ => true
  | _ => false
def isCol (d : PyData) (n : Int) : Bool := match d with
  | .tuple ds => decide ((ds.length : Int) = n) && ds.all isNum
  | _ => false
def spNum : Sp := fun vs H Q _ => ∃ (B : List Addr) (v : V) (d : PyData), vs = [v] ∧ Dt B H v d ∧ Q (.bl (isNum d)) H
def spIsCol : Sp := fun vs H Q _ => ∃ (B : List Addr) (v : V) (d : PyData) (n : Int) (j : Nat), vs = [v, .int n] ∧ Dt B H v d ∧ Sh d j ∧ j ≤ 60 ∧ ∀ H', Same H H' → Q (.bl (isCol d n)) H'
theorem fm_bind {α β : Type} (ds : List α) (f : α → Option β) : (List.range ds.length).filterMap (fun i => (ds[i]?).bind f) = ds.filterMap f := by
  have h := List.filterMap_filterMap (f := fun i : Nat => ds[i]?) (g := f) (l := List.range ds.length)
  rw [fm_all rfl] at h
  exact h.symm
theorem isCol_no {ds : List PyData} {n : Int} (h : (ds.length : Int) ≠ n) : isCol (.tuple ds) n = false := by
  unfold isCol
  simp [h]
theorem isCol_yes {ds : List PyData} {n : Int} (h : (ds.length : Int) = n) : isCol (.tuple ds) n = ds.all isNum := by
  unfold isCol
  simp [h]
theorem ok_is_number (T : Tx K mg) {k : Nat} : FnOk P w K mg base CX0 (k + 1) T.f_is_number T.d_is_number ["thing"] spNum := by
  refine T.F_is_number.ok sc_is_number (fun vs H Q E h => ?_) (fun cdv A outer s H vs Q E hr h => ?_)
  · obtain ⟨B, v, d, rfl, _⟩ := h
    rfl
  · obtain ⟨B, v, d, rfl, hv, q⟩ := h
    refine ⟨_, (pss_one (ps_ret (pe_and (pe_callB (call_isiK1 K) (by rfl) T.z_isinstance (by decide +kernel) (pa_cons (pv 0) (pa_cons (pe_bltn (v := .ty "int") (by rfl) T.z_int (by decide +kernel) rfl) pa_nil))) (pe_one (pe_not (pe_callB (call_isiK1 K) (by rfl) T.z_isinstance (by decide +kernel) (pa_cons (pv 0) (pa_cons (pe_bltn (v := .ty "bool") (by rfl) T.z_bool (by decide +kernel) rfl) pa_nil)))))))), ?_⟩
    cases d with
    | none =>
      have tx : TyX K H v (.type "NoneType") := hv.ty
      exact ⟨_, rfl, _, _, _, _, false, rfl, .ty _, tx, kit_ty (by decide +kernel), _, rfl, iteF q⟩
    | bool b =>
      have tx : TyX K H v (.type "bool") := hv.ty
      exact ⟨_, rfl, _, _, _, _, true, rfl, .ty _, tx, kit_ty (by decide +kernel), _, rfl, iteT ⟨_, rfl, _, _, _, _, true, rfl, .ty _, tx, kit_ty (by decide +kernel), _, rfl, q⟩⟩
    | int i =>
      have tx : TyX K H v (.type "int") := hv.ty
      exact ⟨_, rfl, _, _, _, _, true, rfl, .ty _, tx, kit_ty (by decide +kernel), _, rfl, iteT ⟨_, rfl, _, _, _, _, false, rfl, .ty _, tx, kit_ty (by decide +kernel), _, rfl, q⟩⟩
    | str z =>
      have tx : TyX K H v (.type "str") := hv.ty
      exact ⟨_, rfl, _, _, _, _, false, rfl, .ty _, tx, kit_ty (by decide +kernel), _, rfl, iteF q⟩
    | list ds =>
      have tx : TyX K H v (.type "list") := hv.ty
      exact ⟨_, rfl, _, _, _, _, false, rfl, .ty _, tx, kit_ty (by decide +kernel), _, rfl, iteF q⟩
    | tuple ds =>
      have tx : TyX K H v (.type "tuple") := hv.ty
      exact ⟨_, rfl, _, _, _, _, false, rfl, .ty _, tx, kit_ty (by decide +kernel), _, rfl, iteF q⟩
    | dict kvs => cases hv
theorem ok_is_colour (T : Tx K mg) {k : Nat} : FnOk P w K mg base CX0 (k + 2) T.f_is_colour T.d_is_colour ["thing", "wide"] spIsCol := by
  refine T.F_is_colour.ok sc_is_colour (fun vs H Q E h => ?_) (fun cdv A outer s H vs Q E hr h => ?_)
  · obtain ⟨B, v, d, n, j, rfl, _⟩ := h
    rfl
  · obtain ⟨B, v, d, n, j, rfl, hv, hd, hj, q⟩ := h
    refine ⟨_, (pss_cons (ps_if (PW.pt (pw_or (pt_not (pt_val (pe_callB (call_isiK1 K) (by rfl) T.z_isinstance (by decide +kernel) (pa_cons (pv 0) (pa_cons (pe_bltn (v := .ty "tuple") (by rfl) T.z_tuple (by decide +kernel) rfl) pa_nil))))) (pw_or1 (pt_cmpR op_ne (pe_callB (len_K K) (by rfl) T.z_len PySem.boot_len (pa_cons (pv 0) pa_nil)) (pv 1) (nomark _))))) (pss_one (ps_ret pe_bl)) pss_nil)
      (pss_one (ps_ret (pe_callB (cr_allK K rfl) (by rfl) T.z_all (by decide +kernel) (pa_cons (pe_lc (own := [("number", 2)]) (by rfl) sc_is_colour.nd (pi_tupK K (pv 0)) (blkOk_by (own := [("number", 2)]) (N := N_is_colour) (sc := defScope s_is_colour) (by decide +kernel)) (fun _ _ _ _ _ => (pg_name (i := 2) sc_is_colour.nd rfl (.inl rfl))) (fun _ _ _ _ _ => pts_nil) (fun _ _ _ _ _ => (pe_call (ok_is_number T (k := k)) hr (by rfl) T.g_is_number T.F_is_number.kp T.b_is_number .nil pass0 (pa_cons (pv 2) pa_nil)))) pa_nil))))), ?_⟩
    cases d with
    | tuple ds =>
      have tx : TyX K H v (.type "tuple") := hv.ty
      obtain ⟨a, xs, rfl, na, ha, hA⟩ := hv.tupI
      have l1 := hA.len
      obtain ⟨j, rfl, hs, hl⟩ := hd.tupI
      refine ⟨_, rfl, _, _, _, _, true, rfl, .ty _, tx, kit_ty (by decide +kernel), _, rfl, iteF ?_⟩
      refine ⟨_, rfl, a, _, rfl, .inr (SqT.of ha), _, rfl, rfl, _, rfl, ite2 (fun e => ?_) (fun e => ?_)⟩
      · have e1 : (ds.length : Int) ≠ n := fun z => by
          rw [l1, z] at e
          simp at e
        have := q _ (Same.refl _)
        rw [isCol_no e1] at this
        exact this
      have el : (ds.length : Int) = n := by
        rw [l1] at e
        simpa using e
      refine ⟨_, rfl, a, rfl, ⟨_, SqT.of ha⟩, fun D hD => ?_⟩
      refine lc_pure (B := []) (walk_tup (xs := xs)) hD (fun _ h => nomatch h) (fun H' s' => SqT.of (s' _ _ ha)) (by omega)
        (fun i => (ds.map fun d => PyData.bool (isNum d))[i]?) (fun i x H' H'' Ny Nn hi t1 bk y ky kn => ?_) (fun H8 ws s8 eS hW => ?_)
      · obtain ⟨rfl, y⟩ := y
        obtain ⟨d1, f1, h1⟩ := hA.getV y
        refine ⟨rfl, lc_yes ⟨_, rfl, B, x, d1, rfl, h1.s t1, ?_⟩⟩
        exact ky _ _ _ (by rw [List.getElem?_map, f1]; rfl) (Same.refl _) (.bl _)
      · rw [fm_all (by simp; omega)] at hW
        have hW2 : DtA [D] H8 ws ((ds.map isNum).map PyData.bool) := by rw [List.map_map]; exact hW
        refine ⟨D, _, rfl, SqL.of (by rw [eS, hW2.blsV]), ?_⟩
        rw [show (ds.map isNum).all id = isCol (.tuple ds) n by rw [isCol_yes el, List.all_map]; rfl]
        exact q _ s8
    | none =>
      have tx : TyX K H v (.type "NoneType") := hv.ty
      exact ⟨_, rfl, _, _, _, _, false, rfl, .ty _, tx, kit_ty (by decide +kernel), _, rfl, iteT (iteT (q _ (Same.refl _)))⟩
    | bool b =>
      have tx : TyX K H v (.type "bool") := hv.ty
      exact ⟨_, rfl, _, _, _, _, false, rfl, .ty _, tx, kit_ty (by decide +kernel), _, rfl, iteT (iteT (q _ (Same.refl _)))⟩
    | int i =>
      have tx : TyX K H v (.type "int") := hv.ty
      exact ⟨_, rfl, _, _, _, _, false, rfl, .ty _, tx, kit_ty (by decide +kernel), _, rfl, iteT (iteT (q _ (Same.refl _)))⟩
    | str z =>
      have tx : TyX K H v (.type "str") := hv.ty
      exact ⟨_, rfl, _, _, _, _, false, rfl, .ty _, tx, kit_ty (by decide +kernel), _, rfl, iteT (iteT (q _ (Same.refl _)))⟩
    | list ds =>
      have tx : TyX K H v (.type "list") := hv.ty
      exact ⟨_, rfl, _, _, _, _, false, rfl, .ty _, tx, kit_ty (by decide +kernel), _, rfl, iteT (iteT (q _ (Same.refl _)))⟩
    | dict kvs => cases hv
/-! ### rising numbers, of a list or a tuple -/
theorem allT' (n : Nat) : (List.range n).filterMap (fun _ => some (PyData.bool true)) = (List.replicate n true).map PyData.bool := by
  induction n with
  | zero => rfl
  | succ n ih =>
    rw [List.range_succ, List.filterMap_append, ih, List.replicate_succ', List.map_append]
    rfl
def risB (ns : List Int) : Bool := ((ns.zip (ns.drop 1)).map fun p => decide (p.1 < p.2)).all id
theorem risB_cons (a b : Int) (ns : List Int) : risB (a :: b :: ns) = (decide (a < b) && risB (b :: ns)) := rfl
theorem cutL1 {α : Type} (xs : List α) : cutL xs (some 1) none = xs.drop 1 := by
  unfold cutL
  have e1 : HT.sIx xs.length 0 (some 1) = min 1 xs.length := HT.sIx_nat xs.length 0 1
  have e2 : HT.sIx xs.length xs.length none = xs.length := rfl
  rw [e1, e2]
  cases xs with
  | nil => rfl
  | cons x t =>
    have : min 1 (x :: t).length = 1 := by rw [List.length_cons]; omega
    rw [this, List.take_of_length_le]
    rw [List.length_drop]
    exact Nat.le_refl _
theorem cut1 (xs : List V) : cutV xs (some 1) none = xs.drop 1 := by
  have h := cutL1 xs
  exact h
def spRis2 : Sp := fun vs H Q _ => ∃ (B : List Addr) (v : V) (ns : List Int), vs = [v] ∧ (Dt B H v (eI ns) ∨ Dt B H v (eC ns)) ∧ Bk B H ∧ ns.length ≤ 1000 ∧ ∀ H', Same H H' → Q (.bl (risB ns)) H'
theorem ok_are_rising (T : Tx K mg) {k : Nat} : FnOk P w K mg base CX0 (k + 2) T.f_are_rising T.d_are_rising ["things"] spRis2 := by
  refine T.F_are_rising.ok sc_are_rising (fun vs H Q E h => ?_) (fun cdv A outer s H vs Q E hr h => ?_)
  · obtain ⟨B, v, ns, rfl, _⟩ := h
    rfl
  · obtain ⟨B, v, ns, rfl, hv, hB, l, q⟩ := h
    refine ⟨_, (pss_cons (ps_if (pt_not (pt_val (pe_callB (cr_allK K rfl) (by rfl) T.z_all (by decide +kernel) (pa_cons (pe_lc (own := [("thing", 1)]) (by rfl) sc_are_rising.nd (pi_seqK K (pv 0)) (blkOk_by (own := [("thing", 1)]) (N := N_are_rising) (sc := defScope s_are_rising) (by decide +kernel)) (fun _ _ _ _ _ => (pg_name (i := 1) sc_are_rising.nd rfl (.inl rfl))) (fun _ _ _ _ _ => pts_nil) (fun _ _ _ _ _ => (pe_call (ok_is_number T (k := k)) hr (by rfl) T.g_is_number T.F_is_number.kp T.b_is_number .nil pass0 (pa_cons (pv 1) pa_nil)))) pa_nil)))) (pss_one (ps_ret pe_bl)) pss_nil)
      (pss_one (ps_ret (pe_callB (cr_allK K rfl) (by rfl) T.z_all (by decide +kernel) (pa_cons (pe_lc (own := [("a", 2), ("b", 3)]) (by rfl) sc_are_rising.nd (RZ.pi_zipA (by rfl) T.z_zip (pa_cons (pv 0) (pa_cons (pe_slice (SlR.or (sl_listK K) (sl_tupAK K)) (pv 0) (po_some pe_int) po_none) pa_nil))) (blkOk_by (own := [("a", 2), ("b", 3)]) (N := N_are_rising) (sc := defScope s_are_rising) (by decide +kernel)) (fun _ _ _ _ _ => (pg_tupK K (n := 2) rfl (pgs_cons (pg_name (i := 2) sc_are_rising.nd rfl (.inl rfl)) (pgs_cons (pg_name (i := 3) sc_are_rising.nd rfl (.inl rfl)) pgs_nil)))) (fun _ _ _ _ _ => pts_nil) (fun _ _ _ _ _ => (pe_cmpR op_lt (pv 2) (pv 3) (nomark _)))) pa_nil))))), ?_⟩
    rcases hv with hv | hv
    · obtain ⟨a, rfl, na, ea⟩ := hv.ints
      refine .inl ⟨_, rfl, a, rfl, ⟨_, SqL.of ea⟩, fun D hD => ?_⟩
      refine lc_pure (B := []) (walk_list (xs := ns.map V.int)) hD (fun _ h => nomatch h) (fun H' s' => SqL.of (s' _ _ ea)) (by rw [List.length_map]; omega) (fun i => some (.bool true)) (fun i x H' H'' Ny Nn hi s2 bk y ky kn => ?_) (fun H1 ws s1 eD hW => ?_)
      · obtain ⟨rfl, y⟩ := y
        rw [List.length_map] at hi
        have ex := mat hi y
        subst ex
        exact ⟨rfl, lc_yes ⟨_, rfl, [], _, .int ns[i], rfl, .int _, ky _ _ _ rfl (Same.refl _) (.bl _)⟩⟩
      rw [allT'] at hW
      refine ⟨D, _, rfl, SqL.of (by rw [eD, hW.blsV]), ?_⟩
      rw [show (List.replicate (ns.map V.int).length true).all id = true by simp]
      refine ⟨_, rfl, iteF ?_⟩
      have ea1 := s1 _ _ ea
      refine ⟨_, rfl, _, rfl, 1, rfl, .inl ⟨a, _, rfl, SqL.of ea1, fun sl hsl => ?_⟩⟩
      have s2 := sm_new (o := .lst (cutV (ns.map V.int) (some 1) none)) hsl
      have esl : (upd H1 sl (.lst (cutV (ns.map V.int) (some 1) none))) sl = some (.lst ((ns.drop 1).map V.int)) := by rw [upd_same, cut1, List.map_drop]
      generalize upd H1 sl (.lst (cutV (ns.map V.int) (some 1) none)) = H2 at *
      have ea2 := s2 _ _ ea1
      refine ⟨a, sl, _, _, rfl, .inl ⟨SqL.of ea2, SqL.of esl, fun D2 hD2 => ?_⟩⟩
      refine lc_pure (B := []) (walk_zip (n := min ns.length (ns.drop 1).length) (xs := ns.map V.int) (ys := (ns.drop 1).map V.int) (by simp)) hD2 (fun _ h => nomatch h) (fun H' s' => ⟨SqL.of (s' _ _ ea2), SqL.of (s' _ _ esl)⟩) (by omega)
        (fun i => (((ns.zip (ns.drop 1)).map fun p => decide (p.1 < p.2)).map PyData.bool)[i]?) (fun i x H' H'' Ny Nn hi t1 bk y ky kn => ?_) (fun H3 ws3 s3 eD3 hW3 => ?_)
      · obtain ⟨t, x, y, rfl, ht, rfl, e1, e2⟩ := y
        have i1 : i < ns.length := by omega
        have i2 : i < (ns.drop 1).length := by omega
        have x1 := mat i1 e1
        have x2 := mat i2 e2
        subst x1 x2
        refine ⟨t, _, rfl, SqT.of upd_same, rfl, _, _, rfl, _, _, rfl, rfl, rfl, lc_yes ?_⟩
        refine ⟨_, rfl, _, rfl, _, _, rfl, rfl, ?_⟩
        refine ky _ _ _ ?_ (sm_new ht) (.bl _)
        rw [List.getElem?_map, List.getElem?_map, List.getElem?_eq_getElem (by rw [List.length_zip]; exact hi)]
        simp
      · rw [fm_all (by simp)] at hW3
        refine ⟨D2, _, rfl, SqL.of (by rw [eD3, hW3.blsV]), ?_⟩
        exact q _ ((s1.trans s2).trans s3)
    · obtain ⟨a, rfl, na, ea⟩ := hv.col
      refine .inr ⟨_, rfl, a, rfl, ⟨_, SqT.of ea⟩, fun D hD => ?_⟩
      refine lc_pure (B := B) (walk_tup (xs := ns.map V.int)) hD hB (fun H' s' => SqT.of (s' _ _ ea)) (by rw [List.length_map]; omega) (fun i => some (.bool true)) (fun i x H' H'' Ny Nn hi s2 bk y ky kn => ?_) (fun H1 ws s1 eD hW => ?_)
      · obtain ⟨rfl, y⟩ := y
        rw [List.length_map] at hi
        have ex := mat hi y
        subst ex
        exact ⟨rfl, lc_yes ⟨_, rfl, [], _, .int ns[i], rfl, .int _, ky _ _ _ rfl (Same.refl _) (.bl _)⟩⟩
      rw [allT'] at hW
      refine ⟨D, _, rfl, SqL.of (by rw [eD, hW.blsV]), ?_⟩
      rw [show (List.replicate (ns.map V.int).length true).all id = true by simp]
      refine ⟨_, rfl, iteF ?_⟩
      have ea1 := s1 _ _ ea
      have hv1 := hv.s s1
      have hB1 : Bk B H1 := hB.go (Go.of (B := B) s1)
      refine ⟨_, rfl, _, rfl, 1, rfl, .inr (slice_dt hv1 hB1 fun v2 H2 s2 hv2 => ?_)⟩
      rw [cutL1, ← List.map_drop] at hv2
      obtain ⟨sl, rfl, nsl, esl⟩ := Dt.col (ns := ns.drop 1) hv2
      have ea2 := s2 _ _ ea1
      refine ⟨a, sl, _, _, rfl, .inr ⟨SqT.of ea2, SqT.of esl, fun D2 hD2 => ?_⟩⟩
      refine lc_pure (B := []) (walk_zipT (n := min ns.length (ns.drop 1).length) (xs := ns.map V.int) (ys := (ns.drop 1).map V.int) (by simp)) hD2 (fun _ h => nomatch h) (fun H' s' => ⟨SqT.of (s' _ _ ea2), SqT.of (s' _ _ esl)⟩) (by omega)
        (fun i => (((ns.zip (ns.drop 1)).map fun p => decide (p.1 < p.2)).map PyData.bool)[i]?) (fun i x H' H'' Ny Nn hi t1 bk y ky kn => ?_) (fun H3 ws3 s3 eD3 hW3 => ?_)
      · obtain ⟨t, x, y, rfl, ht, rfl, e1, e2⟩ := y
        have i1 : i < ns.length := by omega
        have i2 : i < (ns.drop 1).length := by omega
        have x1 := mat i1 e1
        have x2 := mat i2 e2
        subst x1 x2
        refine ⟨t, _, rfl, SqT.of upd_same, rfl, _, _, rfl, _, _, rfl, rfl, rfl, lc_yes ?_⟩
        refine ⟨_, rfl, _, rfl, _, _, rfl, rfl, ?_⟩
        refine ky _ _ _ ?_ (sm_new ht) (.bl _)
        rw [List.getElem?_map, List.getElem?_map, List.getElem?_eq_getElem (by rw [List.length_zip]; exact hi)]
        simp
      · rw [fm_all (by simp)] at hW3
        refine ⟨D2, _, rfl, SqL.of (by rw [eD3, hW3.blsV]), ?_⟩
        exact q _ ((s1.trans s2).trans s3)
/-! ### one or more of the palette's numbers, rising -/
def someB (m : Nat) (ns : List Int) : Bool := decide (0 < ns.length) && (risB ns && (decide (0 ≤ ns.headD 0) && decide (ns.getLastD 0 < (m : Int))))
theorem some_nil (m : Nat) : someB m [] = false := rfl
theorem some_ne {m : Nat} {ns : List Int} (h : 0 < ns.length) : someB m ns = (risB ns && (decide (0 ≤ ns.headD 0) && decide (ns.getLastD 0 < (m : Int)))) := by
  unfold someB
  rw [decide_eq_true h, Bool.true_and]
def spSome : Sp := fun vs H Q _ => ∃ (B : List Addr) (pl v : V) (cs : List (List Int)) (ns : List Int), vs = [pl, v] ∧ Dt B H pl (eP cs) ∧ (Dt B H v (eI ns) ∨ Dt B H v (eC ns)) ∧ Bk B H ∧ cs.length ≤ 1000 ∧ ns.length ≤ 1000 ∧ ∀ H', Same H H' → Q (.bl (someB cs.length ns)) H'
theorem ok_are_some (T : Tx K mg) {k : Nat} : FnOk P w K mg base CX0 (k + 3) T.f_are_some T.d_are_some ["palette", "numbers"] spSome := by
  refine T.F_are_some.ok sc_are_some (fun vs H Q E h => ?_) (fun cdv A outer s H vs Q E hr h => ?_)
  · obtain ⟨B, pl, v, cs, ns, rfl, _⟩ := h
    rfl
  · obtain ⟨B, pl, v, cs, ns, rfl, hp, hv, hB, lc, l, q⟩ := h
    obtain ⟨pa, ps, rfl, np, ep, hpA⟩ := hp.pal
    have lp := hpA.len
    rw [List.length_map] at lp
    have h0 : 0 < ns.length → (ns.map V.int)[0]? = some (.int (ns.headD 0)) := fun l0 => by
      match ns, l0 with
      | x :: xs, _ => rfl
    have hl : 0 < ns.length → atI (ns.map V.int) (-1) = some (.int (ns.getLastD 0)) := fun l0 => by
      obtain ⟨ys, z, ez⟩ : ∃ ys z, ns = ys ++ [z] := ⟨_, _, (List.dropLast_concat_getLast (List.length_pos_iff.mp l0)).symm⟩
      rw [ez, List.map_append, List.getLastD_eq_getLast?, List.getLast?_append]
      exact atI_last _ _
    refine ⟨_, (pss_cons (ps_if (PW.pt (pw_or (pt_cmpR op_eq (pe_callB (len_K K) (by rfl) T.z_len PySem.boot_len (pa_cons (pv 1) pa_nil)) pe_int (nomark _)) (pw_or1 (pt_not (pt_val (pe_call (ok_are_rising T (k := k)) hr (by rfl) T.g_are_rising T.F_are_rising.kp T.b_are_rising .nil pass0 (pa_cons (pv 1) pa_nil))))))) (pss_one (ps_ret pe_bl)) pss_nil)
      (pss_one (ps_ret (pe_and (pe_cmpR op_ge (pe_ix (IxR.or (ix_listK K) (ix_tupK K)) (pv 1) pe_int (fun _ _ => rfl)) pe_int (nomark _)) (pe_one (pe_cmpR op_lt (pe_ix (IxR.or (ix_listK K) (ix_tupK K)) (pv 1) (pe_un un_neg pe_int) (fun _ _ => rfl)) (pe_callB (len_K K) (by rfl) T.z_len PySem.boot_len (pa_cons (pv 0) pa_nil)) (nomark _))))))), ?_⟩
    rcases hv with hv | hv
    · have hv0 := hv
      obtain ⟨a, rfl, na, ea⟩ := hv.ints
      refine ⟨_, rfl, a, _, rfl, .inl (SqL.of ea), rfl, _, rfl, ite2 (fun e => ?_) (fun e => ?_)⟩
      · have e0 : ns = [] := by simpa using e
        subst e0
        exact q _ (Same.refl _)
      · have l0 : 0 < ns.length := by
          have : ns ≠ [] := by simpa using e
          exact List.length_pos_iff.mpr this
        rw [some_ne l0] at q
        refine ⟨_, rfl, B, _, ns, rfl, .inl hv0, hB, l, fun H1 s1 => ?_⟩
        have ea1 := s1 _ _ ea
        have ep1 := s1 _ _ ep
        refine ⟨_, rfl, ?_⟩
        cases c : risB ns with
        | false =>
          rw [c] at q
          exact iteT (q _ s1)
        | true =>
          rw [c, Bool.true_and] at q
          refine iteF ?_
          refine ⟨_, rfl, .inl ⟨a, _, 0, _, rfl, rfl, SqL.of ea1, atI_nat (j := 0) (h0 l0), ?_⟩⟩
          refine ⟨_, _, rfl, rfl, _, rfl, ite2 (fun e => ?_) (fun e => ?_)⟩
          · rw [decide_eq_true (of_decide_eq_true e), Bool.true_and] at q
            refine ⟨_, rfl, _, rfl, .inl ⟨a, _, _, _, rfl, rfl, SqL.of ea1, hl l0, ?_⟩⟩
            refine ⟨_, rfl, pa, _, rfl, .inl (SqL.of ep1), _, _, rfl, rfl, ?_⟩
            have := q _ s1
            rw [← lp] at this
            exact this
          · have z := q _ s1
            rw [show decide (0 ≤ ns.headD 0) = false from Bool.eq_false_iff.mpr e, Bool.false_and] at z
            exact z
    · have hv0 := hv
      obtain ⟨a, rfl, na, ea⟩ := hv.col
      refine ⟨_, rfl, a, _, rfl, .inr (SqT.of ea), rfl, _, rfl, ite2 (fun e => ?_) (fun e => ?_)⟩
      · have e0 : ns = [] := by simpa using e
        subst e0
        exact q _ (Same.refl _)
      · have l0 : 0 < ns.length := by
          have : ns ≠ [] := by simpa using e
          exact List.length_pos_iff.mpr this
        rw [some_ne l0] at q
        refine ⟨_, rfl, B, _, ns, rfl, .inr hv0, hB, l, fun H1 s1 => ?_⟩
        have ea1 := s1 _ _ ea
        have ep1 := s1 _ _ ep
        refine ⟨_, rfl, ?_⟩
        cases c : risB ns with
        | false =>
          rw [c] at q
          exact iteT (q _ s1)
        | true =>
          rw [c, Bool.true_and] at q
          refine iteF ?_
          refine ⟨_, rfl, .inr ⟨a, _, 0, _, rfl, rfl, SqT.of ea1, atI_nat (j := 0) (h0 l0), ?_⟩⟩
          refine ⟨_, _, rfl, rfl, _, rfl, ite2 (fun e => ?_) (fun e => ?_)⟩
          · rw [decide_eq_true (of_decide_eq_true e), Bool.true_and] at q
            refine ⟨_, rfl, _, rfl, .inr ⟨a, _, _, _, rfl, rfl, SqT.of ea1, hl l0, ?_⟩⟩
            refine ⟨_, rfl, pa, _, rfl, .inl (SqL.of ep1), _, _, rfl, rfl, ?_⟩
            have := q _ s1
            rw [← lp] at this
            exact this
          · have z := q _ s1
            rw [show decide (0 ≤ ns.headD 0) = false from Bool.eq_false_iff.mpr e, Bool.false_and] at z
            exact z
/-! ### boxes of any data -/
def leL (a b : List Int) : Bool := (a.zip b).all fun p => decide (p.1 ≤ p.2)
def leD : PyData → PyData → Bool
  | .tuple ls, .tuple hs => (ls.zip hs).all fun p => match p with
    | (.int x, .int y) => decide (x ≤ y)
    | _ => false
  | _, _ => false
def isBox (d : PyData) (n : Int) : Bool := match d with
  | .tuple [l, h] => isCol l n && (isCol h n && leD l h)
  | _ => false
theorem isBox_eq (l h : PyData) (n : Int) : isBox (.tuple [l, h]) n = (isCol l n && (isCol h n && leD l h)) := rfl
theorem leD_eC : ∀ a b : List Int, leD (eC a) (eC b) = leL a b := by
  intro a b
  unfold leD eC leL
  simp only [List.zip_map, List.all_map]
  rfl
theorem isCol_inv {d : PyData} {n : Int} (h : isCol d n = true) : ∃ ns : List Int, d = eC ns ∧ (ns.length : Int) = n := by
  cases d with
  | tuple ds =>
    unfold isCol at h
    have h1 := Bool.and_eq_true_iff.mp h
    have h2 : (ds.length : Int) = n := of_decide_eq_true h1.1
    obtain ⟨ns, e⟩ : ∃ ns : List Int, ds = ns.map PyData.int := by
      clear h h2
      replace h1 := h1.2
      induction ds with
      | nil => exact ⟨[], rfl⟩
      | cons d ds ih =>
        rw [List.all_cons] at h1
        have h3 := Bool.and_eq_true_iff.mp h1
        obtain ⟨ns, e⟩ := ih h3.2
        cases d with
        | int i => exact ⟨i :: ns, by rw [List.map_cons, ← e]⟩
        | _ => exact absurd h3.1 (by simp [isNum])
    subst e
    rw [List.length_map] at h2
    exact ⟨ns, rfl, h2⟩
  | _ => exact absurd h (by simp [isCol])
theorem isBox_len {ds : List PyData} {n : Int} (h : ds.length ≠ 2) : isBox (.tuple ds) n = false := by
  match ds, h with
  | [], _ => rfl
  | [_], _ => rfl
  | [_, _], h => exact absurd rfl h
  | _ :: _ :: _ :: _, _ => rfl
theorem two_of {ds : List PyData} (h : ds.length = 2) : ∃ l u, ds = [l, u] := by
  match ds, h with
  | [l, u], _ => exact ⟨l, u, rfl⟩
theorem DtA.twoB {B : List Addr} {H : Hp} {vs : List V} {l u : PyData} (h : DtA B H vs [l, u]) : ∃ x y, vs = [x, y] ∧ Dt B H x l ∧ Dt B H y u := by
  cases h with
  | cons h1 h2 =>
    cases h2 with
    | cons h3 h4 =>
      cases h4
      exact ⟨_, _, rfl, h1, h3⟩
theorem leL_iff : ∀ {a b : List Int}, a.length = b.length → (leL a b = true ↔ ∀ (i : Nat) (x y : Int), a[i]? = some x → b[i]? = some y → x ≤ y)
  | [], [], _ => ⟨fun _ i x y h => by simp at h, fun _ => rfl⟩
  | x :: a, y :: b, h => by
    have ih := leL_iff (a := a) (b := b) (by simpa using h)
    unfold leL at ih ⊢
    rw [List.zip_cons_cons, List.all_cons, Bool.and_eq_true_iff, ih]
    constructor
    · rintro ⟨h1, h2⟩ i u v hu hv
      cases i with
      | zero =>
        cases hu
        cases hv
        exact of_decide_eq_true h1
      | succ i => exact h2 i u v hu hv
    · intro h1
      exact ⟨decide_eq_true (h1 0 x y rfl rfl), fun i u v hu hv => h1 (i + 1) u v hu hv⟩
def spIsBox : Sp := fun vs H Q _ => ∃ (B : List Addr) (v : V) (d : PyData) (n : Int) (j : Nat), vs = [v, .int n] ∧ Dt B H v d ∧ Sh d j ∧ j ≤ 60 ∧ n ≤ 1000 ∧ ∀ H', Same H H' → Q (.bl (isBox d n)) H'
theorem ok_is_box (T : Tx K mg) {k : Nat} : FnOk P w K mg base CX0 (k + 3) T.f_is_box T.d_is_box ["thing", "wide"] spIsBox := by
  refine T.F_is_box.ok sc_is_box (fun vs H Q E h => ?_) (fun cdv A outer s H vs Q E hr h => ?_)
  · obtain ⟨B, v, d, n, j, rfl, _⟩ := h
    rfl
  · obtain ⟨B, v, d, n, j, rfl, hv, hd, hj, hn, q⟩ := h
    refine ⟨_, (pss_cons (ps_if (PW.pt (pw_or (pt_not (pt_val (pe_callB (call_isiK1 K) (by rfl) T.z_isinstance (by decide +kernel) (pa_cons (pv 0) (pa_cons (pe_bltn (v := .ty "tuple") (by rfl) T.z_tuple (by decide +kernel) rfl) pa_nil))))) (pw_or1 (pt_cmpR op_ne (pe_callB (len_K K) (by rfl) T.z_len PySem.boot_len (pa_cons (pv 0) pa_nil)) pe_int (nomark _))))) (pss_one (ps_ret pe_bl)) pss_nil)
      (pss_cons (ps_asg (pv 0) (pg_tupK K (n := 2) rfl (pgs_cons (pg_name (i := 2) sc_is_box.nd rfl (.inl rfl)) (pgs_cons (pg_name (i := 3) sc_is_box.nd rfl (.inl rfl)) pgs_nil))))
      (pss_cons (ps_if (PW.pt (pw_or (pt_not (pt_val (pe_call (ok_is_colour T (k := k)) hr (by rfl) T.g_is_colour T.F_is_colour.kp T.b_is_colour .nil pass0 (pa_cons (pv 2) (pa_cons (pv 1) pa_nil))))) (pw_or1 (pt_not (pt_val (pe_call (ok_is_colour T (k := k)) hr (by rfl) T.g_is_colour T.F_is_colour.kp T.b_is_colour .nil pass0 (pa_cons (pv 3) (pa_cons (pv 1) pa_nil)))))))) (pss_one (ps_ret pe_bl)) pss_nil)
      (pss_one (ps_ret (pe_callB (cr_allK K rfl) (by rfl) T.z_all (by decide +kernel) (pa_cons (pe_lc (own := [("a", 4), ("b", 5)]) (by rfl) sc_is_box.nd (RZ.pi_zipA (by rfl) T.z_zip (pa_cons (pv 2) (pa_cons (pv 3) pa_nil))) (blkOk_by (own := [("a", 4), ("b", 5)]) (N := N_is_box) (sc := defScope s_is_box) (by decide +kernel)) (fun _ _ _ _ _ => (pg_tupK K (n := 2) rfl (pgs_cons (pg_name (i := 4) sc_is_box.nd rfl (.inl rfl)) (pgs_cons (pg_name (i := 5) sc_is_box.nd rfl (.inl rfl)) pgs_nil)))) (fun _ _ _ _ _ => pts_nil) (fun _ _ _ _ _ => (pe_cmpR op_le (pv 4) (pv 5) (nomark _)))) pa_nil))))))), ?_⟩
    cases d with
    | tuple ds =>
      have tx : TyX K H v (.type "tuple") := hv.ty
      obtain ⟨a, xs, rfl, na, ha, hA⟩ := hv.tupI
      have l1 := hA.len
      obtain ⟨j, rfl, hs, hl⟩ := hd.tupI
      refine ⟨_, rfl, _, _, _, _, true, rfl, .ty _, tx, kit_ty (by decide +kernel), _, rfl, iteF ?_⟩
      refine ⟨_, rfl, a, _, rfl, .inr (SqT.of ha), rfl, _, rfl, ite2 (fun e => ?_) (fun e => ?_)⟩
      · have e1 : ds.length ≠ 2 := fun z => by
          rw [l1, z] at e
          exact absurd e (by decide)
        have := q _ (Same.refl _)
        rw [isBox_len e1] at this
        exact this
      have el : ds.length = 2 := by
        rw [l1] at e
        have : ((ds.length : Nat) : Int) = 2 := by simpa using e
        omega
      obtain ⟨dl, dh, rfl⟩ := two_of el
      obtain ⟨lv, hv2, rfl, dlo, dhi⟩ := hA.twoB
      refine ⟨_, rfl, a, _, rfl, SqT.of ha, rfl, _, _, rfl, _, _, rfl, rfl, ?_⟩
      refine ⟨_, rfl, _, rfl, B, lv, dl, n, j, rfl, dlo, hs _ (by simp), by omega, fun H1 s1 => ?_⟩
      refine ⟨_, rfl, ?_⟩
      cases c1 : isCol dl n with
      | false => exact iteT (iteT (by
          have := q _ s1
          rw [show isBox (.tuple [dl, dh]) n = false by rw [isBox_eq, c1]; rfl] at this
          exact this))
      | true =>
        refine iteF ?_
        refine ⟨_, rfl, _, rfl, B, hv2, dh, n, j, rfl, dhi.s s1, hs _ (by simp), by omega, fun H2 s2 => ?_⟩
        refine ⟨_, rfl, ?_⟩
        have t2 := s1.trans s2
        cases c2 : isCol dh n with
        | false => exact iteT (by
            have := q _ t2
            rw [show isBox (.tuple [dl, dh]) n = false by rw [isBox_eq, c1, c2]; rfl] at this
            exact this)
        | true =>
          refine iteF ?_
          obtain ⟨lo, rfl, n1⟩ := isCol_inv c1
          obtain ⟨hi, rfl, n2⟩ := isCol_inv c2
          obtain ⟨la, rfl, _, ela⟩ := (dlo.s t2).col
          obtain ⟨ua, rfl, _, eua⟩ := (dhi.s t2).col
          refine ⟨_, rfl, _, rfl, la, ua, _, _, rfl, .inr ⟨SqT.of ela, SqT.of eua, fun D hD => ?_⟩⟩
          refine lc_pure (B := []) (walk_zipT (n := lo.length) (xs := lo.map V.int) (ys := hi.map V.int) (by simp; omega)) hD (fun _ h => nomatch h) (fun H' s' => ⟨SqT.of (s' _ _ ela), SqT.of (s' _ _ eua)⟩) (by omega)
            (fun i => ((lo.zip hi).map fun p => PyData.bool (decide (p.1 ≤ p.2)))[i]?) (fun i x H' H'' Ny Nn hi' t1 bk y ky kn => ?_) (fun H8 ws s8 eS hW => ?_)
          · obtain ⟨t, x, y, rfl, ht, rfl, e1, e2⟩ := y
            have i2 : i < hi.length := by omega
            have x1 := mat hi' e1
            have x2 := mat i2 e2
            refine ⟨t, [x, y], rfl, SqT.of upd_same, rfl, x, _, rfl, y, _, rfl, rfl, rfl, lc_yes ?_⟩
            refine ⟨_, rfl, _, rfl, _, _, x1, x2, ?_⟩
            refine ky _ _ _ ?_ (sm_new ht) (.bl _)
            rw [List.getElem?_map, List.getElem?_eq_getElem (by simp; omega)]
            simp
          · rw [fm_all (by simp; omega)] at hW
            have hW2 : DtA [D] H8 ws (((lo.zip hi).map fun p => decide (p.1 ≤ p.2)).map PyData.bool) := by rw [List.map_map]; exact hW
            refine ⟨D, _, rfl, SqL.of (by rw [eS, hW2.blsV]), ?_⟩
            rw [show ((lo.zip hi).map fun p => decide (p.1 ≤ p.2)).all id = isBox (.tuple [eC lo, eC hi]) n by
              rw [isBox_eq, c1, c2, leD_eC, List.all_map]
              rfl]
            exact q _ (t2.trans s8)
    | none =>
      have tx : TyX K H v (.type "NoneType") := hv.ty
      exact ⟨_, rfl, _, _, _, _, false, rfl, .ty _, tx, kit_ty (by decide +kernel), _, rfl, iteT (iteT (q _ (Same.refl _)))⟩
    | bool b =>
      have tx : TyX K H v (.type "bool") := hv.ty
      exact ⟨_, rfl, _, _, _, _, false, rfl, .ty _, tx, kit_ty (by decide +kernel), _, rfl, iteT (iteT (q _ (Same.refl _)))⟩
    | int i =>
      have tx : TyX K H v (.type "int") := hv.ty
      exact ⟨_, rfl, _, _, _, _, false, rfl, .ty _, tx, kit_ty (by decide +kernel), _, rfl, iteT (iteT (q _ (Same.refl _)))⟩
    | str z =>
      have tx : TyX K H v (.type "str") := hv.ty
      exact ⟨_, rfl, _, _, _, _, false, rfl, .ty _, tx, kit_ty (by decide +kernel), _, rfl, iteT (iteT (q _ (Same.refl _)))⟩
    | list ds =>
      have tx : TyX K H v (.type "list") := hv.ty
      exact ⟨_, rfl, _, _, _, _, false, rfl, .ty _, tx, kit_ty (by decide +kernel), _, rfl, iteT (iteT (q _ (Same.refl _)))⟩
    | dict kvs => cases hv
def pOk (cs : List (List Int)) (c : List Int) : Prop := cs.length ≤ 1000 ∧ c.length ≤ 100 ∧ cIn (-100000000) 100000000 c ∧ ∀ x ∈ cs, x.length = c.length ∧ cIn (-100000000) 100000000 x
/-! ### numbers of a palette -/
def allN (m : Nat) : List Int := (List.range m).map fun (i : Nat) => (i : Int)
theorem allN_length (m : Nat) : (allN m).length = m := by unfold allN; rw [List.length_map, List.length_range]
theorem allN_pw (m : Nat) : (allN m).Pairwise (· ≤ ·) := by
  unfold allN
  rw [List.pairwise_map]
  exact List.pairwise_lt_range.imp fun h => by omega
theorem mem_allN {m : Nat} {n : Int} : n ∈ allN m ↔ 0 ≤ n ∧ n < (m : Int) := by
  unfold allN
  rw [List.mem_map]
  constructor
  · rintro ⟨i, hi, rfl⟩
    have := List.mem_range.mp hi
    omega
  · intro h
    exact ⟨n.toNat, List.mem_range.mpr (by omega), by omega⟩
theorem allN_nd (m : Nat) : (allN m).Nodup := by
  unfold allN
  rw [List.Nodup, List.pairwise_map]
  exact List.pairwise_lt_range.imp fun h => by omega
def eBx (b : List Int × List Int) : PyData := .tuple [eC b.1, eC b.2]
def hF (lo c hi : List Int) (i : Nat) : Bool := decide (lo.getD i 0 ≤ c.getD i 0) && decide (c.getD i 0 ≤ hi.getD i 0)
def hol (lo c hi : List Int) : Bool := (List.range c.length).all (hF lo c hi)
theorem getD_ofh {ns : List Int} {i : Nat} (h : i < ns.length) : ns.getD i 0 = ns[i] := by
  rw [List.getD_eq_getElem?_getD, List.getElem?_eq_getElem h]
  rfl
theorem getD_of {ns : List Int} {i : Nat} (h : i < ns.length) : ns.getD i 0 = ns[i] := by
  rw [List.getD_eq_getElem?_getD, List.getElem?_eq_getElem h]
  rfl
/-! ### the least and the greatest -/
def Lo (ns : List Int) (m : Int) : Prop := m ∈ ns ∧ ∀ y ∈ ns, m ≤ y
def Hi (ns : List Int) (m : Int) : Prop := m ∈ ns ∧ ∀ y ∈ ns, y ≤ m
theorem Lo.one {ns : List Int} {a b : Int} (h1 : Lo ns a) (h2 : Lo ns b) : a = b := by
  have := h1.2 b h2.1
  have := h2.2 a h1.1
  omega
theorem Hi.one {ns : List Int} {a b : Int} (h1 : Hi ns a) (h2 : Hi ns b) : a = b := by
  have := h1.2 b h2.1
  have := h2.2 a h1.1
  omega
def minL : List Int → Int
  | [] => 0
  | [x] => x
  | x :: y :: xs => if x ≤ minL (y :: xs) then x else minL (y :: xs)
def maxL : List Int → Int
  | [] => 0
  | [x] => x
  | x :: y :: xs => if maxL (y :: xs) ≤ x then x else maxL (y :: xs)
theorem minL_lo : ∀ {ns : List Int}, 0 < ns.length → Lo ns (minL ns)
  | [x], _ => ⟨List.mem_singleton.mpr rfl, fun y hy => by rw [List.mem_singleton.mp hy]; exact Int.le_refl _⟩
  | x :: y :: xs, _ => by
    have ih := minL_lo (ns := y :: xs) (by simp)
    show Lo _ (if x ≤ minL (y :: xs) then x else minL (y :: xs))
    by_cases h : x ≤ minL (y :: xs)
    · rw [if_pos h]
      refine ⟨List.mem_cons_self .., fun z hz => ?_⟩
      rcases List.mem_cons.mp hz with e | e
      · omega
      · have := ih.2 z e; omega
    · rw [if_neg h]
      refine ⟨List.mem_cons_of_mem _ ih.1, fun z hz => ?_⟩
      rcases List.mem_cons.mp hz with e | e
      · omega
      · exact ih.2 z e
theorem maxL_hi : ∀ {ns : List Int}, 0 < ns.length → Hi ns (maxL ns)
  | [x], _ => ⟨List.mem_singleton.mpr rfl, fun y hy => by rw [List.mem_singleton.mp hy]; exact Int.le_refl _⟩
  | x :: y :: xs, _ => by
    have ih := maxL_hi (ns := y :: xs) (by simp)
    show Hi _ (if maxL (y :: xs) ≤ x then x else maxL (y :: xs))
    by_cases h : maxL (y :: xs) ≤ x
    · rw [if_pos h]
      refine ⟨List.mem_cons_self .., fun z hz => ?_⟩
      rcases List.mem_cons.mp hz with e | e
      · omega
      · have := ih.2 z e; omega
    · rw [if_neg h]
      refine ⟨List.mem_cons_of_mem _ ih.1, fun z hz => ?_⟩
      rcases List.mem_cons.mp hz with e | e
      · omega
      · exact ih.2 z e
/-- the numbers at a place -/
def colP (cs : List (List Int)) (p : Nat) : List Int := cs.map fun c => c.getD p 0
def boxLo (cs : List (List Int)) (wd : Nat) : List Int := (List.range wd).map fun p => minL (colP cs p)
def boxHi (cs : List (List Int)) (wd : Nat) : List Int := (List.range wd).map fun p => maxL (colP cs p)
theorem boxLo_len (cs : List (List Int)) (wd : Nat) : (boxLo cs wd).length = wd := by unfold boxLo; rw [List.length_map, List.length_range]
theorem boxHi_len (cs : List (List Int)) (wd : Nat) : (boxHi cs wd).length = wd := by unfold boxHi; rw [List.length_map, List.length_range]
theorem boxLo_at {cs : List (List Int)} {wd p : Nat} (h0 : 0 < cs.length) (hp : p < wd) : ∃ m, (boxLo cs wd)[p]? = some m ∧ (boxLo cs wd).getD p 0 = m ∧ Lo (colP cs p) m := by
  have e : (boxLo cs wd)[p]? = some (minL (colP cs p)) := by unfold boxLo; rw [List.getElem?_map, List.getElem?_range hp]; rfl
  refine ⟨_, e, ?_, minL_lo (by unfold colP; rw [List.length_map]; exact h0)⟩
  rw [List.getD_eq_getElem?_getD, e]
  rfl
theorem boxHi_at {cs : List (List Int)} {wd p : Nat} (h0 : 0 < cs.length) (hp : p < wd) : ∃ m, (boxHi cs wd)[p]? = some m ∧ (boxHi cs wd).getD p 0 = m ∧ Hi (colP cs p) m := by
  have e : (boxHi cs wd)[p]? = some (maxL (colP cs p)) := by unfold boxHi; rw [List.getElem?_map, List.getElem?_range hp]; rfl
  refine ⟨_, e, ?_, maxL_hi (by unfold colP; rw [List.length_map]; exact h0)⟩
  rw [List.getD_eq_getElem?_getD, e]
  rfl
theorem list_at {a b : List Int} (hl : a.length = b.length) (h : ∀ p, p < a.length → a.getD p 0 = b.getD p 0) : a = b := by
  refine List.ext_getElem hl fun i h1 h2 => ?_
  have := h i h1
  rw [List.getD_eq_getElem?_getD, List.getElem?_eq_getElem h1, List.getD_eq_getElem?_getD, List.getElem?_eq_getElem h2] at this
  exact this
theorem boxLo_eq {ls : List Int} {cs : List (List Int)} {wd : Nat} (h0 : 0 < cs.length) (hl : ls.length = wd) (h : ∀ p, p < wd → Lo (colP cs p) (ls.getD p 0)) : ls = boxLo cs wd := by
  refine list_at (by rw [boxLo_len]; exact hl) fun p hp => ?_
  obtain ⟨m, _, e, q⟩ := boxLo_at (wd := wd) (p := p) h0 (by omega)
  rw [e]
  exact (h p (by omega)).one q
theorem boxHi_eq {ls : List Int} {cs : List (List Int)} {wd : Nat} (h0 : 0 < cs.length) (hl : ls.length = wd) (h : ∀ p, p < wd → Hi (colP cs p) (ls.getD p 0)) : ls = boxHi cs wd := by
  refine list_at (by rw [boxHi_len]; exact hl) fun p hp => ?_
  obtain ⟨m, _, e, q⟩ := boxHi_at (wd := wd) (p := p) h0 (by omega)
  rw [e]
  exact (h p (by omega)).one q
theorem mem_colP {cs : List (List Int)} {p : Nat} {y : Int} : y ∈ colP cs p ↔ ∃ c ∈ cs, c.getD p 0 = y := by
  unfold colP
  exact List.mem_map
/-- of the same colours the same box -/
theorem boxLo_same {cs ds : List (List Int)} {wd : Nat} (h0 : 0 < cs.length) (h : ∀ c, c ∈ cs ↔ c ∈ ds) : boxLo cs wd = boxLo ds wd := by
  have h1 : 0 < ds.length := by
    cases cs with
    | nil => exact absurd h0 (by decide)
    | cons c cs => exact List.length_pos_of_mem ((h c).mp (List.mem_cons_self ..))
  refine boxLo_eq h1 (boxLo_len _ _) fun p hp => ?_
  obtain ⟨m, _, e, q⟩ := boxLo_at (wd := wd) (p := p) h0 hp
  rw [e]
  refine ⟨?_, fun y hy => q.2 y ?_⟩
  · obtain ⟨c, hc, e⟩ := mem_colP.mp q.1
    exact mem_colP.mpr ⟨c, (h c).mp hc, e⟩
  · obtain ⟨c, hc, e⟩ := mem_colP.mp hy
    exact mem_colP.mpr ⟨c, (h c).mpr hc, e⟩
theorem boxHi_same {cs ds : List (List Int)} {wd : Nat} (h0 : 0 < cs.length) (h : ∀ c, c ∈ cs ↔ c ∈ ds) : boxHi cs wd = boxHi ds wd := by
  have h1 : 0 < ds.length := by
    cases cs with
    | nil => exact absurd h0 (by decide)
    | cons c cs => exact List.length_pos_of_mem ((h c).mp (List.mem_cons_self ..))
  refine boxHi_eq h1 (boxHi_len _ _) fun p hp => ?_
  obtain ⟨m, _, e, q⟩ := boxHi_at (wd := wd) (p := p) h0 hp
  rw [e]
  refine ⟨?_, fun y hy => q.2 y ?_⟩
  · obtain ⟨c, hc, e⟩ := mem_colP.mp q.1
    exact mem_colP.mpr ⟨c, (h c).mp hc, e⟩
  · obtain ⟨c, hc, e⟩ := mem_colP.mp hy
    exact mem_colP.mpr ⟨c, (h c).mpr hc, e⟩
theorem lo_le_hi {cs : List (List Int)} {wd p : Nat} (h0 : 0 < cs.length) (hp : p < wd) : (boxLo cs wd).getD p 0 ≤ (boxHi cs wd).getD p 0 := by
  obtain ⟨m, _, e, q⟩ := boxLo_at (wd := wd) (p := p) h0 hp
  obtain ⟨m', _, e', q'⟩ := boxHi_at (wd := wd) (p := p) h0 hp
  rw [e, e']
  exact q.2 _ q'.1
/-- the box of the ends of two boxes -/
theorem both_lo {cs ds es : List (List Int)} {wd : Nat} (h0 : 0 < cs.length) (h1 : 0 < ds.length) (h : ∀ c, c ∈ es ↔ c ∈ cs ∨ c ∈ ds) : boxLo [boxLo cs wd, boxHi cs wd, boxLo ds wd, boxHi ds wd] wd = boxLo es wd := by
  have h2 : 0 < es.length := by
    cases cs with
    | nil => exact absurd h0 (by decide)
    | cons c cs => exact List.length_pos_of_mem ((h c).mpr (.inl (List.mem_cons_self ..)))
  refine boxLo_eq h2 (boxLo_len _ _) fun p hp => ?_
  obtain ⟨m, _, e, q⟩ := boxLo_at (cs := [boxLo cs wd, boxHi cs wd, boxLo ds wd, boxHi ds wd]) (wd := wd) (p := p) (by simp) hp
  obtain ⟨a, _, ea, qa⟩ := boxLo_at (cs := cs) (wd := wd) (p := p) h0 hp
  obtain ⟨b, _, eb, qb⟩ := boxLo_at (cs := ds) (wd := wd) (p := p) h1 hp
  have la := lo_le_hi (cs := cs) (wd := wd) (p := p) h0 hp
  have lb := lo_le_hi (cs := ds) (wd := wd) (p := p) h1 hp
  rw [e]
  have m1 := q.2 a (mem_colP.mpr ⟨_, by simp, ea⟩)
  have m2 := q.2 b (mem_colP.mpr ⟨boxLo ds wd, by simp, eb⟩)
  obtain ⟨c, hc, em⟩ := mem_colP.mp q.1
  simp only [List.mem_cons, List.not_mem_nil, or_false] at hc
  have ca : ∀ y ∈ colP es p, m ≤ y := fun y hy => by
    obtain ⟨x, hx, ey⟩ := mem_colP.mp hy
    rcases (h x).mp hx with z | z
    · have := qa.2 y (mem_colP.mpr ⟨x, z, ey⟩); omega
    · have := qb.2 y (mem_colP.mpr ⟨x, z, ey⟩); omega
  refine ⟨?_, ca⟩
  have hm : m = a ∨ m = b := by
    rcases hc with rfl | rfl | rfl | rfl <;> omega
  rcases hm with rfl | rfl
  · obtain ⟨x, hx, ey⟩ := mem_colP.mp qa.1
    exact mem_colP.mpr ⟨x, (h x).mpr (.inl hx), ey⟩
  · obtain ⟨x, hx, ey⟩ := mem_colP.mp qb.1
    exact mem_colP.mpr ⟨x, (h x).mpr (.inr hx), ey⟩
theorem both_hi {cs ds es : List (List Int)} {wd : Nat} (h0 : 0 < cs.length) (h1 : 0 < ds.length) (h : ∀ c, c ∈ es ↔ c ∈ cs ∨ c ∈ ds) : boxHi [boxLo cs wd, boxHi cs wd, boxLo ds wd, boxHi ds wd] wd = boxHi es wd := by
  have h2 : 0 < es.length := by
    cases cs with
    | nil => exact absurd h0 (by decide)
    | cons c cs => exact List.length_pos_of_mem ((h c).mpr (.inl (List.mem_cons_self ..)))
  refine boxHi_eq h2 (boxHi_len _ _) fun p hp => ?_
  obtain ⟨m, _, e, q⟩ := boxHi_at (cs := [boxLo cs wd, boxHi cs wd, boxLo ds wd, boxHi ds wd]) (wd := wd) (p := p) (by simp) hp
  obtain ⟨a, _, ea, qa⟩ := boxHi_at (cs := cs) (wd := wd) (p := p) h0 hp
  obtain ⟨b, _, eb, qb⟩ := boxHi_at (cs := ds) (wd := wd) (p := p) h1 hp
  have la := lo_le_hi (cs := cs) (wd := wd) (p := p) h0 hp
  have lb := lo_le_hi (cs := ds) (wd := wd) (p := p) h1 hp
  rw [e]
  have m1 := q.2 a (mem_colP.mpr ⟨boxHi cs wd, by simp, ea⟩)
  have m2 := q.2 b (mem_colP.mpr ⟨boxHi ds wd, by simp, eb⟩)
  obtain ⟨c, hc, em⟩ := mem_colP.mp q.1
  simp only [List.mem_cons, List.not_mem_nil, or_false] at hc
  have ca : ∀ y ∈ colP es p, y ≤ m := fun y hy => by
    obtain ⟨x, hx, ey⟩ := mem_colP.mp hy
    rcases (h x).mp hx with z | z
    · have := qa.2 y (mem_colP.mpr ⟨x, z, ey⟩); omega
    · have := qb.2 y (mem_colP.mpr ⟨x, z, ey⟩); omega
  refine ⟨?_, ca⟩
  have hm : m = a ∨ m = b := by
    rcases hc with rfl | rfl | rfl | rfl <;> omega
  rcases hm with rfl | rfl
  · obtain ⟨x, hx, ey⟩ := mem_colP.mp qa.1
    exact mem_colP.mpr ⟨x, (h x).mpr (.inl hx), ey⟩
  · obtain ⟨x, hx, ey⟩ := mem_colP.mp qb.1
    exact mem_colP.mpr ⟨x, (h x).mpr (.inr hx), ey⟩
/-! ### the box of colours -/
def eB (lo hi : List Int) : PyData := .tuple [eC lo, eC hi]
theorem DtA.cols {B : List Addr} {H : Hp} : ∀ {cs : List (List Int)} {vs : List V}, DtA B H vs (cs.map eC) → ∃ as : List Addr, vs = as.map V.ref ∧ as.length = cs.length ∧ ∀ (j : Nat) (a : Addr) (c : List Int), as[j]? = some a → cs[j]? = some c → a ∉ B ∧ H a = some (.tup (c.map V.int))
  | [], _, h => by
    cases h
    exact ⟨[], rfl, rfl, fun j a c e => by simp at e⟩
  | c :: cs, _, h => by
    cases h with
    | cons h1 h2 =>
      obtain ⟨a, rfl, na, ea⟩ := h1.col
      obtain ⟨as, rfl, l, q⟩ := DtA.cols h2
      refine ⟨a :: as, rfl, by simp [l], fun j b d e1 e2 => ?_⟩
      cases j with
      | zero =>
        cases e1
        cases e2
        exact ⟨na, ea⟩
      | succ j => exact q j b d e1 e2
def spEdge (f : List (List Int) → Nat → List Int) : Sp := fun vs H Q _ => ∃ (B C : List Addr) (v : V) (cs : List (List Int)) (wd : Nat), vs = [v] ∧ Dt B H v (eP cs) ∧ Bk C H ∧ 0 < cs.length ∧ cs.length ≤ 1000 ∧ wd ≤ 100 ∧ (∀ c ∈ cs, c.length = wd) ∧ ∀ v' H', Same H H' → Dt C H' v' (eC (f cs wd)) → Q v' H'
theorem row_of {cs : List (List Int)} {wd i : Nat} {zs : List V} (hw : ∀ c ∈ cs, c.length = wd) (hi : i < wd) (lz : zs.length = (cs.map fun c => c.map V.int).length) (h : ∀ (j : Nat) (xs : List V), (cs.map fun c => c.map V.int)[j]? = some xs → xs[i]? = zs[j]?) : zs = (colP cs i).map V.int := by
  unfold colP
  rw [List.length_map] at lz
  refine List.ext_getElem? fun j => ?_
  rcases Nat.lt_or_ge j cs.length with z | z
  · have hx := h j (cs[j].map V.int) (by rw [List.getElem?_map, List.getElem?_eq_getElem z]; rfl)
    have hl := hw _ (List.getElem_mem z)
    rw [← hx, List.getElem?_map, List.getElem?_map, List.getElem?_map, List.getElem?_eq_getElem z, List.getElem?_eq_getElem (show i < cs[j].length by omega)]
    simp only [Option.map_some]
    rw [List.getD_eq_getElem?_getD, List.getElem?_eq_getElem (show i < cs[j].length by omega)]
    rfl
  · rw [List.getElem?_eq_none (by omega), List.getElem?_eq_none (by simp; omega)]
theorem ok_least_numbers (T : Tx K mg) {k : Nat} : FnOk P w K mg base CX0 (k + 1) T.f_least_numbers T.d_least_numbers ["colours"] (spEdge boxLo) := by
  refine T.F_least_numbers.ok sc_least_numbers (fun vs H Q E h => ?_) (fun cdv A outer s H vs Q E hr h => ?_)
  · obtain ⟨B, C, v, cs, wd, rfl, _⟩ := h
    rfl
  · obtain ⟨B, C, v, cs, wd, rfl, hv, hB, c0, c1, w1, hw, q⟩ := h
    obtain ⟨pa, vs, rfl, np, ep, hA⟩ := hv.pal
    obtain ⟨as, rfl, la, ha⟩ := hA.cols
    have lm : (cs.map fun c => c.map V.int).length = as.length := by rw [List.length_map, la]
    have src : ∀ {H' : Hp}, Same H H' → ∀ (j : Nat) (a : Addr) (xs : List V), as[j]? = some a → (cs.map fun c => c.map V.int)[j]? = some xs → SqT K H' a xs := fun s' j a xs e1 e2 => by
      rw [List.getElem?_map] at e2
      cases e : cs[j]? with
      | none => rw [e] at e2; cases e2
      | some c =>
        rw [e] at e2
        have ex : c.map V.int = xs := Option.some.inj e2
        rw [← ex]
        exact SqT.of (s' _ _ (ha j a c e1 e).2)
    refine ⟨_, (pss_one (ps_ret (pe_callTy (tuple_K K) (by rfl) T.z_tuple (by decide +kernel) (pa_cons (pe_lc (own := [("numbers", 1)]) (by rfl) sc_least_numbers.nd (pi_zipN K (by rfl) T.z_zip (pv 0)) (blkOk_by (own := [("numbers", 1)]) (N := N_least_numbers) (sc := defScope s_least_numbers) (by decide +kernel)) (fun _ _ _ _ _ => (pg_name (i := 1) sc_least_numbers.nd rfl (.inl rfl))) (fun _ _ _ _ _ => pts_nil) (fun _ _ _ _ _ => (pe_callB (cr_minT K rfl) (by rfl) T.z_min (by decide +kernel) (pa_cons (pv 1) pa_nil)))) pa_nil)))), ?_⟩
    refine ⟨_, rfl, pa, as, rfl, .inr (SqL.of ep), by omega, fun a m => ?_, fun D hD => ?_⟩
    · obtain ⟨j, hj, rfl⟩ := List.mem_iff_getElem.mp m
      have hj2 : j < cs.length := by omega
      exact ⟨_, src (Same.refl H) j _ _ (List.getElem?_eq_getElem hj) (by rw [List.getElem?_map, List.getElem?_eq_getElem hj2]; rfl)⟩
    · refine lc_pure (B := []) (walk_zipN (as := as) (xss := cs.map fun c => c.map V.int) (W := wd) lm (by omega) (fun xs hx => ?_)) hD (fun _ h => nomatch h) (fun H' s' => src s') (by omega)
        (fun i => some (PyData.int (minL (colP cs i)))) (fun i x H' H'' Ny Nn hi t1 bk y ky kn => ?_) (fun H8 ws s8 eS hW => ?_)
      · obtain ⟨c, hc, rfl⟩ := List.mem_map.mp hx
        rw [List.length_map]
        exact hw c hc
      · obtain ⟨t, zs, rfl, ht, rfl, lz, hz⟩ := y
        have ez := row_of hw hi lz hz
        subst ez
        refine ⟨rfl, lc_yes ⟨_, rfl, t, colP cs i, rfl, SqT.of upd_same, by unfold colP; rw [List.length_map]; exact c0, fun m m1 m2 => ?_⟩⟩
        have em : m = minL (colP cs i) := Lo.one ⟨m1, m2⟩ (minL_lo (by unfold colP; rw [List.length_map]; exact c0))
        subst em
        exact ky _ _ _ rfl (sm_new ht) (.int _)
      · rw [fm_some] at hW
        have hW2 : DtA [D] H8 ws ((boxLo cs wd).map PyData.int) := by
          unfold boxLo
          rw [List.map_map]
          exact hW
        have ew := hW2.intsV
        subst ew
        refine ⟨D, _, rfl, .inl ⟨SqL.of eS, fun t ht => ?_⟩⟩
        exact q _ _ (s8.trans (sm_new ht)) (Dt.ofCol ((hB.go (Go.of (B := C) s8)).ne ht) upd_same)
theorem ok_greatest_numbers (T : Tx K mg) {k : Nat} : FnOk P w K mg base CX0 (k + 1) T.f_greatest_numbers T.d_greatest_numbers ["colours"] (spEdge boxHi) := by
  refine T.F_greatest_numbers.ok sc_greatest_numbers (fun vs H Q E h => ?_) (fun cdv A outer s H vs Q E hr h => ?_)
  · obtain ⟨B, C, v, cs, wd, rfl, _⟩ := h
    rfl
  · obtain ⟨B, C, v, cs, wd, rfl, hv, hB, c0, c1, w1, hw, q⟩ := h
    obtain ⟨pa, vs, rfl, np, ep, hA⟩ := hv.pal
    obtain ⟨as, rfl, la, ha⟩ := hA.cols
    have lm : (cs.map fun c => c.map V.int).length = as.length := by rw [List.length_map, la]
    have src : ∀ {H' : Hp}, Same H H' → ∀ (j : Nat) (a : Addr) (xs : List V), as[j]? = some a → (cs.map fun c => c.map V.int)[j]? = some xs → SqT K H' a xs := fun s' j a xs e1 e2 => by
      rw [List.getElem?_map] at e2
      cases e : cs[j]? with
      | none => rw [e] at e2; cases e2
      | some c =>
        rw [e] at e2
        have ex : c.map V.int = xs := Option.some.inj e2
        rw [← ex]
        exact SqT.of (s' _ _ (ha j a c e1 e).2)
    refine ⟨_, (pss_one (ps_ret (pe_callTy (tuple_K K) (by rfl) T.z_tuple (by decide +kernel) (pa_cons (pe_lc (own := [("numbers", 1)]) (by rfl) sc_greatest_numbers.nd (pi_zipN K (by rfl) T.z_zip (pv 0)) (blkOk_by (own := [("numbers", 1)]) (N := N_greatest_numbers) (sc := defScope s_greatest_numbers) (by decide +kernel)) (fun _ _ _ _ _ => (pg_name (i := 1) sc_greatest_numbers.nd rfl (.inl rfl))) (fun _ _ _ _ _ => pts_nil) (fun _ _ _ _ _ => (pe_callB (cr_maxT K rfl) (by rfl) T.z_max (by decide +kernel) (pa_cons (pv 1) pa_nil)))) pa_nil)))), ?_⟩
    refine ⟨_, rfl, pa, as, rfl, .inr (SqL.of ep), by omega, fun a m => ?_, fun D hD => ?_⟩
    · obtain ⟨j, hj, rfl⟩ := List.mem_iff_getElem.mp m
      have hj2 : j < cs.length := by omega
      exact ⟨_, src (Same.refl H) j _ _ (List.getElem?_eq_getElem hj) (by rw [List.getElem?_map, List.getElem?_eq_getElem hj2]; rfl)⟩
    · refine lc_pure (B := []) (walk_zipN (as := as) (xss := cs.map fun c => c.map V.int) (W := wd) lm (by omega) (fun xs hx => ?_)) hD (fun _ h => nomatch h) (fun H' s' => src s') (by omega)
        (fun i => some (PyData.int (maxL (colP cs i)))) (fun i x H' H'' Ny Nn hi t1 bk y ky kn => ?_) (fun H8 ws s8 eS hW => ?_)
      · obtain ⟨c, hc, rfl⟩ := List.mem_map.mp hx
        rw [List.length_map]
        exact hw c hc
      · obtain ⟨t, zs, rfl, ht, rfl, lz, hz⟩ := y
        have ez := row_of hw hi lz hz
        subst ez
        refine ⟨rfl, lc_yes ⟨_, rfl, t, colP cs i, rfl, SqT.of upd_same, by unfold colP; rw [List.length_map]; exact c0, fun m m1 m2 => ?_⟩⟩
        have em : m = maxL (colP cs i) := Hi.one ⟨m1, m2⟩ (maxL_hi (by unfold colP; rw [List.length_map]; exact c0))
        subst em
        exact ky _ _ _ rfl (sm_new ht) (.int _)
      · rw [fm_some] at hW
        have hW2 : DtA [D] H8 ws ((boxHi cs wd).map PyData.int) := by
          unfold boxHi
          rw [List.map_map]
          exact hW
        have ew := hW2.intsV
        subst ew
        refine ⟨D, _, rfl, .inl ⟨SqL.of eS, fun t ht => ?_⟩⟩
        exact q _ _ (s8.trans (sm_new ht)) (Dt.ofCol ((hB.go (Go.of (B := C) s8)).ne ht) upd_same)
def spBoxOf : Sp := fun vs H Q _ => ∃ (B C : List Addr) (v : V) (cs : List (List Int)) (wd : Nat), vs = [v] ∧ Dt B H v (eP cs) ∧ Bk C H ∧ 0 < cs.length ∧ cs.length ≤ 1000 ∧ wd ≤ 100 ∧ (∀ c ∈ cs, c.length = wd) ∧ ∀ v' H', Same H H' → Dt C H' v' (eB (boxLo cs wd) (boxHi cs wd)) → Q v' H'
theorem ok_box_of (T : Tx K mg) {k : Nat} : FnOk P w K mg base CX0 (k + 2) T.f_box_of T.d_box_of ["colours"] spBoxOf := by
  refine T.F_box_of.ok sc_box_of (fun vs H Q E h => ?_) (fun cdv A outer s H vs Q E hr h => ?_)
  · obtain ⟨B, C, v, cs, wd, rfl, _⟩ := h
    rfl
  · obtain ⟨B, C, v, cs, wd, rfl, hv, hB, c0, c1, w1, hw, q⟩ := h
    refine ⟨_, (pss_one (ps_ret (pe_tup (pa_cons (pe_call (ok_least_numbers T (k := k)) hr (by rfl) T.g_least_numbers T.F_least_numbers.kp T.b_least_numbers .nil pass0 (pa_cons (pv 0) pa_nil)) (pa_cons (pe_call (ok_greatest_numbers T (k := k)) hr (by rfl) T.g_greatest_numbers T.F_greatest_numbers.kp T.b_greatest_numbers .nil pass0 (pa_cons (pv 0) pa_nil)) pa_nil))))), ?_⟩
    refine ⟨_, rfl, B, C, v, cs, wd, rfl, hv, hB, c0, c1, w1, hw, fun v1 H1 s1 d1 => ?_⟩
    refine ⟨_, rfl, B, C, v, cs, wd, rfl, hv.s s1, hB.go (Go.of (B := C) s1), c0, c1, w1, hw, fun v2 H2 s2 d2 => ?_⟩
    refine ⟨(by show 2 ≤ sizeLine; decide), fun p hp => ?_⟩
    have s3 := sm_new (o := .tup [v1, v2]) hp
    exact q _ _ ((s1.trans s2).trans s3) (.tup ((hB.go (Go.of (B := C) (s1.trans s2))).ne hp) upd_same (.cons ((d1.s s2).s s3) (.one (d2.s s3))))
/-! ### draws, by their data alone -/
def cOk (wd : Int) (c : List Int) : Prop := (c.length : Int) = wd ∧ cIn 0 999 c
theorem Lfs.one {L : List Addr} {H H' : Hp} {n m : Nat} {a : Addr} (lf : Lfs L H n) (g : Go [a] H H') (l : Lf a H' m) (h : n ≤ m) : Lfs L H' m := ⟨fun b hb => by
  by_cases e : b = a
  · rw [e]; exact l
  · exact ((lf.1 b hb).go g (by simpa using e)).mono h, g.t lf.2⟩
def rPick : List Sl → Nat → DQ → Prop := fun ds n K => ∃ m : Int, ds = [.l, .d (.int m)] ∧ n < 1000000000 ∧ 0 < m ∧ m < 1073741824 ∧ ∀ r : Int, 0 ≤ r → r < m → K (.int r) (n + 1)
theorem okd_l_pick (T : Tx K mg) {k : Nat} : FnOk P w K mg base CX0 (k + 2) T.f_l_pick T.d_l_pick ["_law_left_here", "_law_many"] (spD rPick) := (ok_l_pick T).imp fun vs H Q E h => by
  obtain ⟨L, B, ds, n, K', hv, hB, lb, lf, ⟨m, e, n1, m0, m1, k⟩, q⟩ := h
  subst e
  cases hv with
  | l ha h2 => cases h2 with
    | d h2 h3 =>
      cases h3
      cases h2
      exact ⟨_, m, n, rfl, lf.1 _ ha, n1, m0, m1, fun r H' g l r0 r1 => q _ _ _ _ (k r r0 r1) (g.w1 ha) (lf.one g l (by omega)) (.int r)⟩
theorem at_ints {ns : List Int} {r : Int} (h0 : 0 ≤ r) (h1 : r < ns.length) : ∃ z, z ∈ ns ∧ atI (ns.map PyData.int) r = some (.int z) := by
  have h : r.toNat < ns.length := by omega
  exact ⟨ns[r.toNat], List.getElem_mem h, at0 h0 (by rw [List.getElem?_map, List.getElem?_eq_getElem h]; rfl)⟩
def rKind : List Sl → Nat → DQ → Prop := fun ds n K => ds = [.l] ∧ n < 100000000 ∧ ∀ wd sp : Int, 1 ≤ wd → wd ≤ 5 → 3 ≤ sp → sp ≤ 1000 → K (eC [wd, sp]) (n + 2)
theorem okd_l_kind (T : Tx K mg) {k : Nat} : FnOk P w K mg base CX0 (k + 3) T.f_l_kind T.d_l_kind ["_law_left_here"] (spD rKind) := by
  refine okD T.F_l_kind sc_l_kind _ (fun cdv A outer s H E hr => ⟨_, (pss_one (ps_ret (pe_tup (pa_cons (pe_ix (ix_listK K) (pe_lst (pa_cons pe_int (pa_cons pe_int (pa_cons pe_int (pa_cons pe_int (pa_cons pe_int (pa_cons pe_int (pa_cons pe_int (pa_cons pe_int pa_nil))))))))) (pe_call (okd_l_pick T (k := k)) hr (by rfl) T.g_l_pick T.F_l_pick.kp T.b_l_pick .nil pass0 (pa_cons (pv 0) (pa_cons pe_int pa_nil))) (fun _ _ => rfl)) (pa_cons (pe_ix (ix_listK K) (pe_lst (pa_cons pe_int (pa_cons pe_int (pa_cons pe_int (pa_cons pe_int (pa_cons pe_int (pa_cons pe_int pa_nil))))))) (pe_call (okd_l_pick T (k := k)) hr (by rfl) T.g_l_pick T.F_l_pick.kp T.b_l_pick .nil pass0 (pa_cons (pv 0) (pa_cons pe_int pa_nil))) (fun _ _ => rfl)) pa_nil))))),
      (ss_ret (se_tup (sa_cons (se_op sr_ixL (SN.se (sn_lst (sa_cons se_int (sa_cons se_int (sa_cons se_int (sa_cons se_int (sa_cons se_int (sa_cons se_int (sa_cons se_int (sa_cons se_int sa_nil)))))))))) (se_call (sa_consL (sa_cons se_int sa_nil)))) (sa_cons (se_op sr_ixL (SN.se (sn_lst (sa_cons se_int (sa_cons se_int (sa_cons se_int (sa_cons se_int (sa_cons se_int (sa_cons se_int sa_nil)))))))) (se_call (sa_consL (sa_cons se_int sa_nil)))) sa_nil))))⟩) (fun ds n Q ⟨e, _⟩ => by rw [e]; rfl) fun ds n Q ⟨e, n1, q⟩ => ?_
  subst e
  refine ⟨_, rfl, by decide, rfl, 8, rfl, by omega, by decide, by decide, fun r r0 r1 => ?_⟩
  obtain ⟨z, hz, ez⟩ := at_ints (ns := [1, 2, 3, 3, 3, 4, 5, 2]) r0 (by simpa using r1)
  refine ⟨_, _, _, rfl, rfl, ez, ?_⟩
  refine ⟨_, rfl, by decide, rfl, 6, rfl, by omega, by decide, by decide, fun r2 r3 r4 => ?_⟩
  obtain ⟨y, hy, ey⟩ := at_ints (ns := [3, 6, 20, 256, 1000, 10]) r3 (by simpa using r4)
  refine ⟨_, _, _, rfl, rfl, ey, ?_⟩
  refine ⟨_, rfl, by simp, ?_⟩
  have hz : z = 1 ∨ z = 2 ∨ z = 3 ∨ z = 3 ∨ z = 3 ∨ z = 4 ∨ z = 5 ∨ z = 2 := by simpa using hz
  have hy : y = 3 ∨ y = 6 ∨ y = 20 ∨ y = 256 ∨ y = 1000 ∨ y = 10 := by simpa using hy
  exact q z y (by omega) (by omega) (by omega) (by omega)
def rColour : List Sl → Nat → DQ → Prop := fun ds n K => ∃ wd sp : Int, ds = [.l, .d (eC [wd, sp])] ∧ n < 100000000 ∧ 0 ≤ wd ∧ wd ≤ 5 ∧ 1 ≤ sp ∧ sp ≤ 1000 ∧ ∀ (ns : List Int) m, m ≤ n + 10 → (ns.length : Int) = wd → cIn 0 999 ns → K (eC ns) m
theorem okd_l_colour (T : Tx K mg) {k : Nat} : FnOk P w K mg base CX0 (k + 3) T.f_l_colour T.d_l_colour ["_law_left_here", "_law_kind_here"] (spD rColour) := by
  refine okD T.F_l_colour sc_l_colour _ (fun cdv A outer s H E hr => ⟨_, (pss_cons (ps_asg (pv 1) (pg_tupK K (n := 2) rfl (pgs_cons (pg_name (i := 2) sc_l_colour.nd rfl (.inl rfl)) (pgs_cons (pg_name (i := 3) sc_l_colour.nd rfl (.inr rfl)) pgs_nil))))
      (pss_one (ps_ret (pe_callTy (tuple_K K) (by rfl) T.z_tuple (by decide +kernel) (pa_cons (pe_lc (own := [("_law_place", 4)]) (by rfl) sc_l_colour.nd (pi_range1 (by rfl) T.z_range (pa_cons (pv 2) pa_nil)) (blkOk_by (own := [("_law_place", 4)]) (N := N_l_colour) (sc := defScope s_l_colour) (by decide +kernel)) (fun _ _ _ _ _ => (pg_name (i := 4) sc_l_colour.nd rfl (.inl rfl))) (fun _ _ _ _ _ => pts_nil) (fun _ _ _ _ _ => (pe_ix (ix_listK K) (pe_lst (pa_cons (pe_call (okd_l_pick T (k := k)) hr (by rfl) T.g_l_pick T.F_l_pick.kp T.b_l_pick .nil pass0 (pa_cons (pv 0) (pa_cons (pv 3) pa_nil))) (pa_cons pe_int pa_nil))) (pe_callTy call_int1 (by rfl) T.z_int (by decide +kernel) (pa_cons (pe_cmpR op_eq (pe_call (okd_l_pick T (k := k)) hr (by rfl) T.g_l_pick T.F_l_pick.kp T.b_l_pick .nil pass0 (pa_cons (pv 0) (pa_cons pe_int pa_nil))) pe_int (nomark _)) pa_nil)) (fun _ _ => rfl)))) pa_nil))))),
      (ss_seq (ss_asg (sv 1) (sg_tup (sgs_cons sg_name (sgs_cons sg_name sgs_nil))))
      (ss_ret (se_cb sc_tup (sa_cons (SN.se (sn_lc (si_r1 (sa_cons (sv 2) sa_nil)) sg_name st_yesD (se_op sr_ixL (SN.se (sn_lst (sa_cons (se_call (sa_consL (sa_cons (sv 3) sa_nil))) (sa_cons se_int sa_nil)))) (se_cb sc_int1 (sa_cons (se_op sr_eqI (se_call (sa_consL (sa_cons se_int sa_nil))) se_int) sa_nil))) (by decide))) sa_nil))))⟩) (fun ds n Q ⟨_, _, e, _⟩ => by rw [e]; rfl) fun ds n Q ⟨wd, sp, e, n1, w0, w1, s0, s1, q⟩ => ?_
  subst e
  refine ⟨_, rfl, _, rfl, rfl, _, _, rfl, _, _, rfl, rfl, ?_⟩
  refine ⟨_, rfl, _, rfl, by omega, by omega, by rw [rgD_len]; omega, fun i acc j => ∃ ns : List Int, acc = ns.map .int ∧ ns.length = i ∧ cIn 0 999 ns ∧ j = n + 2 * i, ⟨[], rfl, rfl, cIn.nil, rfl⟩, fun i d acc j ed ⟨ns, ea, en, cn, ej⟩ => ?_, fun acc j ⟨ns, ea, en, cn, ej⟩ => ?_⟩
  · have hi : i < wd.toNat := by have := (List.getElem?_eq_some_iff.mp ed).1; rwa [rgD_len] at this
    refine ⟨rfl, _, rfl, sp, rfl, by omega, by omega, by omega, fun r r0 r1 => ?_⟩
    refine ⟨_, rfl, by simp, rfl, 8, rfl, by omega, by decide, by decide, fun r2 r3 r4 => ?_⟩
    refine ⟨_, _, rfl, rfl, _, rfl, .inr ⟨_, rfl, ?_⟩⟩
    cases e8 : decide (r2 = 0) with
    | false =>
      refine ⟨_, _, _, rfl, rfl, rfl, ns ++ [r], by rw [ea, List.map_append]; rfl, by simp [en], cn.app r0 (by omega), by omega⟩
    | true =>
      refine ⟨_, _, _, rfl, rfl, rfl, ns ++ [999], by rw [ea, List.map_append]; rfl, by simp [en], cn.app (by decide) (by decide), by omega⟩
  · rw [rgD_len] at en ej
    refine ⟨_, rfl, _, .inl rfl, ?_⟩
    rw [ea]
    exact q ns j (by omega) (by omega) cn
theorem ec_at {cs : List (List Int)} {r : Int} (h0 : 0 ≤ r) (h1 : r < cs.length) : ∃ c, c ∈ cs ∧ atI (cs.map eC) r = some (eC c) := by
  have h : r.toNat < cs.length := by omega
  exact ⟨cs[r.toNat], List.getElem_mem h, at0 h0 (by rw [List.getElem?_map, List.getElem?_eq_getElem h]; rfl)⟩
theorem shd_cs {cs : List (List Int)} (h : cs.length ≤ 1000) (h2 : ∀ c ∈ cs, c.length ≤ 1000) : SeqAt.shaped (.list (cs.map eC)) = true := (sh_eP (cs := cs) (by omega) fun c hc => by have := h2 c hc; omega).sh (by decide)
def rPalette : List Sl → Nat → (List PyData → Nat → Prop) → Prop := fun ds n K => ∃ wd sp : Int, ds = [.l, .d (eC [wd, sp])] ∧ n < 10000000 ∧ 0 ≤ wd ∧ wd ≤ 5 ∧ 1 ≤ sp ∧ sp ≤ 1000 ∧ ∀ (cs : List (List Int)) m, m ≤ n + 1000 → 0 < cs.length → cs.length ≤ 40 → (∀ c ∈ cs, cOk wd c) → K (cs.map eC) m
theorem okn_l_palette (T : Tx K mg) {k : Nat} : FnOk P w K mg base CX0 (k + 4) T.f_l_palette T.d_l_palette ["_law_left_here", "_law_kind_here"] (spN rPalette) := by
  refine okN T.F_l_palette sc_l_palette _ (fun cdv A outer s H E hr => ⟨_, (pss_cons (ps_set (i := 2) sc_l_palette.nd rfl (.inl rfl) (pe_ix (ix_listK K) (pe_lst (pa_cons pe_int (pa_cons pe_int (pa_cons pe_int (pa_cons pe_int (pa_cons pe_int (pa_cons pe_int (pa_cons pe_int (pa_cons (pe_op op_add pe_int (pe_call (okd_l_pick T (k := k + 1)) hr (by rfl) T.g_l_pick T.F_l_pick.kp T.b_l_pick .nil pass0 (pa_cons (pv 0) (pa_cons pe_int pa_nil)))) pa_nil))))))))) (pe_call (okd_l_pick T (k := k + 1)) hr (by rfl) T.g_l_pick T.F_l_pick.kp T.b_l_pick .nil pass0 (pa_cons (pv 0) (pa_cons pe_int pa_nil))) (fun _ _ => rfl)))
      (pss_cons (ps_set (i := 3) sc_l_palette.nd rfl (.inl rfl) (pe_lst pa_nil))
      (pss_cons (ps_for PassesOwn.never rfl (pi_range1 (by rfl) T.z_range (pa_cons (pv 2) pa_nil)) (pg_name (i := 4) sc_l_palette.nd rfl (.inl rfl)) (pss_cons (ps_set (i := 5) sc_l_palette.nd rfl (.inl rfl) (pe_call (okd_l_colour T (k := k)) hr (by rfl) T.g_l_colour T.F_l_colour.kp T.b_l_colour .nil pass0 (pa_cons (pv 0) (pa_cons (pv 1) pa_nil))))
      (Evl.pss_cut (ps_if (PW.pt (pw_and (pt_cmpR (op_neDK K hr.units) (pv 3) (pe_lst pa_nil) (nomark _)) (pw_and1 (pt_cmpR op_eq (pe_call (okd_l_pick T (k := k + 1)) hr (by rfl) T.g_l_pick T.F_l_pick.kp T.b_l_pick .nil pass0 (pa_cons (pv 0) (pa_cons pe_int pa_nil))) pe_int (nomark _))))) (pss_one (ps_set (i := 5) sc_l_palette.nd rfl (.inl rfl) (pe_ix (ix_listK K) (pv 3) (pe_call (okd_l_pick T (k := k + 1)) hr (by rfl) T.g_l_pick T.F_l_pick.kp T.b_l_pick .nil pass0 (pa_cons (pv 0) (pa_cons (pe_callB (len_K K) (by rfl) T.z_len PySem.boot_len (pa_cons (pv 3) pa_nil)) pa_nil))) (fun _ _ => rfl)))) pss_nil)
      (pss_one (ps_expr (pe_bm PySem.F.plainAttrs_list PySem.F.slot_list_append PySem.F.type_list_append mt_append (pv 3) (pa_cons (pv 5) pa_nil)))))))
      (pss_one (ps_ret (pv 3)))))),
      (ss_seq (ss_asg (se_op sr_ixL (SN.se (sn_lst (sa_cons se_int (sa_cons se_int (sa_cons se_int (sa_cons se_int (sa_cons se_int (sa_cons se_int (sa_cons se_int (sa_cons (se_op sr_int se_int (se_call (sa_consL (sa_cons se_int sa_nil)))) sa_nil)))))))))) (se_call (sa_consL (sa_cons se_int sa_nil)))) sg_name)
      (ss_seq (ss_asgO (sn_lst sa_nil))
      (ss_seq (ss_for (si_r1 (sa_cons (sv 2) sa_nil)) sg_name (ss_seq (ss_asg (se_call (sa_consL (sa_cons (sv 1) sa_nil))) sg_name)
      (ss_cut (ss_if (st_and (st_test (se_neO (SN.se (sn_lst sa_nil)))) (st_test (se_op sr_eqI (se_call (sa_consL (sa_cons se_int sa_nil))) se_int))) (ss_asg (se_ixO (se_call (sa_consL (sa_cons se_lenO sa_nil)))) sg_name) ss_next)
      (ss_app (sv 5)))))
      ss_retO)))⟩) (fun ds n Q ⟨_, _, e, _⟩ => by rw [e]; rfl) fun ds n Q ⟨wd, sp, e, n1, w0, w1, s0, s1, q⟩ => ?_
  subst e
  refine ⟨rfl, 31, rfl, by omega, by decide, by decide, fun r r0 r1 => ⟨_, _, rfl, rfl, _, rfl, by simp, rfl, 8, rfl, by omega, by decide, by decide, fun r2 r3 r4 => ?_⟩⟩
  obtain ⟨z, hz, ez⟩ := at_ints (ns := [1, 2, 3, 4, 5, 7, 9, 10 + r]) r3 (by simpa using r4)
  have hz : z = 1 ∨ z = 2 ∨ z = 3 ∨ z = 4 ∨ z = 5 ∨ z = 7 ∨ z = 9 ∨ z = 10 + r := by simpa using hz
  refine ⟨_, _, _, rfl, rfl, ez, ?_⟩
  refine ⟨_, rfl, by simp, ?_⟩
  refine ⟨_, rfl, _, rfl, by omega, by omega, fun i δ j => ∃ (cs : List (List Int)) (x4 x5 : Sl), δ = [.l, .d (eC [wd, sp]), .d (.int z), .o (cs.map eC), x4, x5] ∧ cs.length = i ∧ (∀ c ∈ cs, cOk wd c) ∧ j ≤ n + 2 + 12 * i, ⟨[], _, _, rfl, rfl, (fun _ h => nomatch h), by omega⟩, fun i d δ j ed ⟨cs, x4, x5, eδ, en, ok, ej⟩ => ?_, fun δ j ⟨cs, x4, x5, eδ, en, ok, ej⟩ => ?_⟩
  · have hi : i < z.toNat := by have := (List.getElem?_eq_some_iff.mp ed).1; rwa [rgD_len] at this
    subst eδ
    refine ⟨rfl, _, rfl, wd, sp, rfl, by omega, by omega, by omega, by omega, by omega, fun c m hm lc cc => ?_⟩
    refine ⟨fun δ j => ∃ (c : List Int), δ = [.l, .d (eC [wd, sp]), .d (.int z), .o (cs.map eC), .d d, .d (eC c)] ∧ cOk wd c ∧ j ≤ n + 2 + 12 * i + 12, ?_, fun δ j ⟨c, eδ, oc, ej⟩ => ?_⟩
    · have M0 : ∃ c', [Sl.l, .d (eC [wd, sp]), .d (.int z), .o (cs.map eC), .d d, .d (eC c)] = [Sl.l, .d (eC [wd, sp]), .d (.int z), .o (cs.map eC), .d d, .d (eC c')] ∧ cOk wd c' ∧ m + 1 ≤ n + 2 + 12 * i + 12 := ⟨c, rfl, ⟨lc, cc⟩, by omega⟩
      refine ⟨_, rfl, shd_cs (by omega) (fun c hc => by have := (ok c hc).1; omega), _, rfl, by simp, rfl, ?_⟩
      cases cs with
      | nil => exact ⟨_, rfl, c, rfl, ⟨lc, cc⟩, by omega⟩
      | cons c0 cs =>
        refine ⟨_, rfl, rfl, 6, rfl, by omega, by decide, by decide, fun r5 r6 r7 => ⟨_, _, rfl, rfl, _, rfl, ite2 (fun e8 => ?_) (fun e8 => ?_)⟩⟩
        · refine ⟨_, rfl, rfl, _, rfl, _, rfl, by omega, by rw [List.length_map, List.length_cons]; omega, by rw [List.length_map]; omega, fun r8 r9 ra => ?_⟩
          obtain ⟨c1, h1, e1⟩ := ec_at (cs := c0 :: cs) r9 (by rw [List.length_map] at ra; exact ra)
          exact ⟨_, _, rfl, e1, c1, rfl, ok c1 h1, by omega⟩
        · exact ⟨c, rfl, ⟨lc, cc⟩, by omega⟩
    · subst eδ
      refine ⟨_, rfl, by simp; omega, _, rfl, cs ++ [c], _, _, by rw [List.map_append]; rfl, by simp [en], fun x hx => ?_, by omega⟩
      rcases List.mem_append.mp hx with h | h
      · exact ok x h
      · rw [List.mem_singleton.mp h]; exact oc
  · subst eδ
    rw [rgD_len] at en ej
    exact ⟨_, rfl, q cs j (by omega) (by omega) (by omega) ok⟩
theorem gi {c : List Int} {i : Nat} {d : PyData} (e : (c.map PyData.int)[i]? = some d) : ∃ h : i < c.length, d = .int c[i] := by
  rw [List.getElem?_map] at e
  cases q : c[i]? with
  | none => rw [q] at e; cases e
  | some x =>
    obtain ⟨h, ex⟩ := List.getElem?_eq_some_iff.mp q
    rw [q] at e
    exact ⟨h, by rw [← ex] at e; exact (Option.some.inj e).symm⟩
/-! ### the least box, by its data alone -/
structure BoxAt (cs : List (List Int)) (w : Nat) (lo hi : List Int) : Prop where
  l1 : lo.length = w
  l2 : hi.length = w
  lo : ∀ p, p < w → (∃ c ∈ cs, lo.getD p 0 = c.getD p 0) ∧ ∀ c ∈ cs, lo.getD p 0 ≤ c.getD p 0
  hi : ∀ p, p < w → (∃ c ∈ cs, hi.getD p 0 = c.getD p 0) ∧ ∀ c ∈ cs, c.getD p 0 ≤ hi.getD p 0
theorem getD_snoc {ns : List Int} {z : Int} {p : Nat} : (ns ++ [z]).getD p 0 = if p < ns.length then ns.getD p 0 else if p = ns.length then z else 0 := by
  rw [List.getD_eq_getElem?_getD, List.getElem?_append]
  by_cases h : p < ns.length
  · rw [if_pos h, if_pos h, List.getD_eq_getElem?_getD]
  · rw [if_neg h, if_neg h]
    by_cases e : p = ns.length
    · rw [if_pos e, e, Nat.sub_self]
      rfl
    · rw [if_neg e]
      cases q : p - ns.length with
      | zero => omega
      | succ m => rfl
def rBoxL : List Sl → Nat → DQ → Prop := fun ds n K => ∃ (cs : List (List Int)) (w : Nat), ds = [.d (eP cs)] ∧ 0 < cs.length ∧ cs.length ≤ 1000 ∧ (∀ c ∈ cs, c.length = w) ∧ w ≤ 50 ∧ ∀ lo hi, BoxAt cs w lo hi → K (.tuple [eC lo, eC hi]) n
theorem col_at {c : List Int} {p : Nat} (h : p < c.length) : atI (c.map PyData.int) (p : Int) = some (.int (c.getD p 0)) := by
  refine atI_nat ?_
  rw [List.getElem?_map, List.getD_eq_getElem?_getD, List.getElem?_eq_getElem h]
  rfl
theorem okd_l_box (T : Tx K mg) {k : Nat} : FnOk P w K mg base CX0 (k + 1) T.f_l_box T.d_l_box ["_law_colours"] (spD rBoxL) := by
  refine okD T.F_l_box sc_l_box _ (fun cdv A outer s H E hr => ⟨_, (pss_cons (ps_set (i := 1) sc_l_box.nd rfl (.inl rfl) (pe_listRg rfl (by rfl) T.z_list (prg_1 (by rfl) T.z_range (pe_callB (len_K K) (by rfl) T.z_len PySem.boot_len (pa_cons (pe_ix (ix_listK K) (pv 0) pe_int (fun _ _ => rfl)) pa_nil)))))
      (pss_cons (ps_set (i := 2) sc_l_box.nd rfl (.inl rfl) (pe_callTy (tuple_K K) (by rfl) T.z_tuple (by decide +kernel) (pa_cons (pe_lc (own := [("_law_place", 3)]) (by rfl) sc_l_box.nd (pi_listK K (pv 1)) (blkOk_by (own := [("_law_place", 3)]) (N := N_l_box) (sc := defScope s_l_box) (by decide +kernel)) (fun _ _ _ _ _ => (pg_name (i := 3) sc_l_box.nd rfl (.inr rfl))) (fun _ _ _ _ _ => pts_nil) (fun _ _ _ _ _ => (pe_callB (cr_minK K rfl) (by rfl) T.z_min (by decide +kernel) (pa_cons (pe_lc (own := [("_law_colour_here", 4)]) (by rfl) sc_l_box.nd (pi_listK K (pv 0)) (blkOk_in (own := [("_law_colour_here", 4)]) (N := N_l_box) ["_law_place"] (by decide +kernel) (by decide +kernel) ⟨.inl rfl, trivial⟩) (fun _ _ _ _ _ => (pg_name (i := 4) sc_l_box.nd rfl (.inl rfl))) (fun _ _ _ _ _ => pts_nil) (fun _ _ _ _ _ => (pe_ix (ix_tupK K) (pv 4) (pv 3) (fun _ _ => rfl)))) pa_nil)))) pa_nil)))
      (pss_one (ps_ret (pe_tup (pa_cons (pv 2) (pa_cons (pe_callTy (tuple_K K) (by rfl) T.z_tuple (by decide +kernel) (pa_cons (pe_lc (own := [("_law_place", 3)]) (by rfl) sc_l_box.nd (pi_listK K (pv 1)) (blkOk_by (own := [("_law_place", 3)]) (N := N_l_box) (sc := defScope s_l_box) (by decide +kernel)) (fun _ _ _ _ _ => (pg_name (i := 3) sc_l_box.nd rfl (.inr rfl))) (fun _ _ _ _ _ => pts_nil) (fun _ _ _ _ _ => (pe_callB (cr_maxK K rfl) (by rfl) T.z_max (by decide +kernel) (pa_cons (pe_lc (own := [("_law_colour_here", 4)]) (by rfl) sc_l_box.nd (pi_listK K (pv 0)) (blkOk_in (own := [("_law_colour_here", 4)]) (N := N_l_box) ["_law_place"] (by decide +kernel) (by decide +kernel) ⟨.inl rfl, trivial⟩) (fun _ _ _ _ _ => (pg_name (i := 4) sc_l_box.nd rfl (.inl rfl))) (fun _ _ _ _ _ => pts_nil) (fun _ _ _ _ _ => (pe_ix (ix_tupK K) (pv 4) (pv 3) (fun _ _ => rfl)))) pa_nil)))) pa_nil)) pa_nil))))))),
      (ss_seq (ss_asg (SN.se (sn_rg1 (se_cb sc_len (sa_cons (se_op sr_ixL (sv 0) se_int) sa_nil)))) sg_name)
      (ss_seq (ss_asg (se_cb sc_tup (sa_cons (SN.se (sn_lc (si_list (sv 1)) sg_name st_yesD (se_cb sc_min (sa_cons (SN.se (sn_lc (si_list (sv 0)) sg_name st_yesD (se_op sr_ixT (sv 4) (sv 3)) (by decide))) sa_nil)) (by decide))) sa_nil)) sg_name)
      (ss_ret (se_tup (sa_cons (sv 2) (sa_cons (se_cb sc_tup (sa_cons (SN.se (sn_lc (si_list (sv 1)) sg_name st_yesD (se_cb sc_max (sa_cons (SN.se (sn_lc (si_list (sv 0)) sg_name st_yesD (se_op sr_ixT (sv 4) (sv 3)) (by decide))) sa_nil)) (by decide))) sa_nil)) sa_nil))))))⟩) (fun ds n Q ⟨_, _, e, _⟩ => by rw [e]; rfl) fun ds n Q ⟨cs, w, e, c0, c1, cw, w1, q⟩ => ?_
  subst e
  obtain ⟨c0', cs', rfl⟩ : ∃ c0' cs', cs = c0' :: cs' := by
    cases cs with
    | nil => exact absurd c0 (by decide)
    | cons x t => exact ⟨x, t, rfl⟩
  have w0 := cw c0' (List.mem_cons_self ..)
  have lc : ((c0' :: cs').map eC).length ≤ 1000 := by rw [List.length_map]; exact c1
  have inner : ∀ {i : Nat} {p : Nat}, p < w → ∀ {x : List Int}, (c0' :: cs')[i]? = some x → atI (x.map PyData.int) ((p : Nat) : Int) = some (.int (x.getD p 0)) := fun {i p} hp {x} hx => col_at (by rw [cw x (mem_i hx)]; exact hp)
  have hz : ((c0'.map PyData.int).length : Int) ≤ 100 := by rw [List.length_map]; omega
  have hrg : RgOk 0 ((c0'.map PyData.int).length : Int) := RgOk.of_le (by omega) (by omega) (by omega) (by omega)
  refine ⟨_, rfl, _, _, _, rfl, rfl, at0 (by decide) rfl, _, rfl, _, .inr rfl, _, rfl, hrg, ?_⟩
  have ew : (((c0'.map PyData.int).length : Int)).toNat = w := by rw [List.length_map]; omega
  rw [ew]
  refine ⟨_, rfl, _, rfl, by simp; omega, fun i acc j => ∃ lo : List Int, acc = lo.map .int ∧ lo.length = i ∧ i ≤ w ∧ (∀ p, p < i → (∃ c ∈ c0' :: cs', lo.getD p 0 = c.getD p 0) ∧ ∀ c ∈ c0' :: cs', lo.getD p 0 ≤ c.getD p 0) ∧ j = n, ⟨[], rfl, rfl, Nat.zero_le _, fun p h => absurd h (Nat.not_lt_zero _), rfl⟩, fun i d acc j ed ⟨lo, ea, el, hw, hl, ej⟩ => ?_, fun acc j ⟨lo, ea, el, hw, hl, ej⟩ => ?_⟩
  · obtain ⟨i', e1, e2⟩ := mpG ed
    have hi : i < w := by have := (List.getElem?_eq_some_iff.mp e1).1; rwa [List.length_range] at this
    rw [List.getElem?_range hi] at e1
    cases e1
    subst e2
    refine ⟨_, rfl, _, rfl, lcD (by omega) (fun q => ((c0' :: cs')[q]?).map fun c => .int (c.getD i 0)) (fun q d Ky Kn ed ky kn => ?_) ?_⟩
    · obtain ⟨c, ec, rfl⟩ := mpG ed
      exact ⟨_, rfl, _, rfl, _, _, _, rfl, rfl, inner hi ec, ky _ (by rw [ec]; rfl)⟩
    · rw [List.length_map, fmM]
      refine ⟨_, rfl, (c0' :: cs').map fun c => c.getD i 0, by unfold eI; rw [List.map_map]; rfl, by simp, fun m hm hle => ?_⟩
      refine ⟨lo ++ [m], by rw [ea, List.map_append]; rfl, by simp [el], hi, fun p hp => ?_, ej⟩
      rw [getD_snoc, el]
      by_cases h : p < i
      · rw [if_pos h]; exact hl p h
      · have : p = i := by omega
        rw [if_neg h, if_pos this, this]
        obtain ⟨c, hc, ec⟩ := List.mem_map.mp hm
        exact ⟨⟨c, hc, ec.symm⟩, fun c hc => hle _ (List.mem_map_of_mem (f := fun c : List Int => c.getD i 0) hc)⟩
  · rw [List.length_map, List.length_range] at el hl hw
    refine ⟨_, rfl, _, .inl rfl, ?_⟩
    rw [ea, ej]
    clear ea ej
    refine ⟨_, rfl, _, rfl, _, rfl, by simp; omega, fun i acc j => ∃ hi : List Int, acc = hi.map .int ∧ hi.length = i ∧ i ≤ w ∧ (∀ p, p < i → (∃ c ∈ c0' :: cs', hi.getD p 0 = c.getD p 0) ∧ ∀ c ∈ c0' :: cs', c.getD p 0 ≤ hi.getD p 0) ∧ j = n, ⟨[], rfl, rfl, Nat.zero_le _, fun p h => absurd h (Nat.not_lt_zero _), rfl⟩, fun i d acc j ed ⟨hi, ea, eh, hw2, hh, ej⟩ => ?_, fun acc j ⟨hi, ea, eh, hw2, hh, ej⟩ => ?_⟩
    · obtain ⟨i', e1, e2⟩ := mpG ed
      have hiw : i < w := by have := (List.getElem?_eq_some_iff.mp e1).1; rwa [List.length_range] at this
      rw [List.getElem?_range hiw] at e1
      cases e1
      subst e2
      refine ⟨_, rfl, _, rfl, lcD (by omega) (fun q => ((c0' :: cs')[q]?).map fun c => .int (c.getD i 0)) (fun q d Ky Kn ed ky kn => ?_) ?_⟩
      · obtain ⟨c, ec, rfl⟩ := mpG ed
        exact ⟨_, rfl, _, rfl, _, _, _, rfl, rfl, inner hiw ec, ky _ (by rw [ec]; rfl)⟩
      · rw [List.length_map, fmM]
        refine ⟨_, rfl, (c0' :: cs').map fun c => c.getD i 0, by unfold eI; rw [List.map_map]; rfl, by simp, fun m hm hle => ?_⟩
        refine ⟨hi ++ [m], by rw [ea, List.map_append]; rfl, by simp [eh], hiw, fun p hp => ?_, ej⟩
        rw [getD_snoc, eh]
        by_cases h : p < i
        · rw [if_pos h]; exact hh p h
        · have : p = i := by omega
          rw [if_neg h, if_pos this, this]
          obtain ⟨c, hc, ec⟩ := List.mem_map.mp hm
          exact ⟨⟨c, hc, ec.symm⟩, fun c hc => hle _ (List.mem_map_of_mem (f := fun c : List Int => c.getD i 0) hc)⟩
    · rw [List.length_map, List.length_range] at eh hh hw2
      refine ⟨_, rfl, _, .inl rfl, _, rfl, by simp, ?_⟩
      rw [ea, ej]
      exact q lo hi ⟨el, eh, hl, hh⟩
theorem ins_perm {α : Type} (ks : List α) (x : α) (i : Nat) : (ks.take i ++ [x] ++ ks.drop i).Perm (x :: ks) := by
  have h : (ks.take i ++ [x] ++ ks.drop i).Perm ([x] ++ ks.take i ++ ks.drop i) := List.Perm.append_right _ List.perm_append_comm
  refine h.trans ?_
  rw [List.append_assoc, List.take_append_drop]
  exact .refl _
def rShuf : List Sl → Nat → (List PyData → Nat → Prop) → Prop := fun ds n K => ∃ ns : List Int, ds = [.l, .d (eI ns)] ∧ n < 10000000 ∧ ns.length ≤ 1000 ∧ ∀ (ks : List Int) m, m ≤ n + ns.length → ks.Perm ns → K (ks.map .int) m
theorem okn_l_shuffled (T : Tx K mg) {k : Nat} : FnOk P w K mg base CX0 (k + 3) T.f_l_shuffled T.d_l_shuffled ["_law_left_here", "_law_some"] (spN rShuf) := by
  refine okN T.F_l_shuffled sc_l_shuffled _ (fun cdv A outer s H E hr => ⟨_, (pss_cons (ps_set (i := 2) sc_l_shuffled.nd rfl (.inl rfl) (pe_lst pa_nil))
      (pss_cons (ps_for PassesOwn.never rfl (pi_listK K (pv 1)) (pg_name (i := 3) sc_l_shuffled.nd rfl (.inl rfl)) (pss_one (ps_expr (pe_bm PySem.F.plainAttrs_list PySem.F.slot_list_insert PySem.F.type_list_insert mt_insert (pv 2) (pa_cons (pe_call (okd_l_pick T (k := k)) hr (by rfl) T.g_l_pick T.F_l_pick.kp T.b_l_pick .nil pass0 (pa_cons (pv 0) (pa_cons (pe_op op_add (pe_callB (len_K K) (by rfl) T.z_len PySem.boot_len (pa_cons (pv 2) pa_nil)) pe_int) pa_nil))) (pa_cons (pv 3) pa_nil))))))
      (pss_one (ps_ret (pv 2))))),
      (ss_seq (ss_asgO (sn_lst sa_nil))
      (ss_seq (ss_for (si_list (sv 1)) sg_name (ss_ins (se_call (sa_consL (sa_cons (se_op sr_int se_lenO se_int) sa_nil))) (sv 3)))
      ss_retO))⟩) (fun ds n Q ⟨_, e, _⟩ => by rw [e]; rfl) fun ds n Q ⟨ns, e, n1, l1, q⟩ => ?_
  subst e
  refine ⟨_, rfl, by simp, _, rfl, _, rfl, fun i δ j => ∃ (ks : List Int) (x3 : Sl), δ = [.l, .d (eI ns), .o (ks.map .int), x3] ∧ ks.Perm (ns.take i) ∧ j = n + i, ⟨[], _, rfl, .refl _, rfl⟩, fun i d δ j ed ⟨ks, x3, eδ, pk, ej⟩ => ?_, fun δ j ⟨ks, x3, eδ, pk, ej⟩ => ?_⟩
  · subst eδ
    obtain ⟨hi, rfl⟩ := gi ed
    have lk := pk.length_eq
    rw [List.length_take] at lk
    refine ⟨_, rfl, by rw [List.length_map]; omega, rfl, ⟨_, rfl, _, _, rfl, rfl, _, rfl, by omega, by rw [List.length_map]; omega, by rw [List.length_map]; omega, fun r r0 r1 => ⟨_, rfl, _, rfl, r0, ?_, ?_⟩⟩⟩
    · rw [List.length_map] at r1
      omega
    · refine ⟨ks.take r.toNat ++ [ns[i]] ++ ks.drop r.toNat, _, by rw [List.map_append, List.map_append, List.map_take, List.map_drop]; rfl, (ins_perm _ _ _).trans ?_, by omega⟩
      rw [List.take_succ_eq_append_getElem hi]
      exact ((pk.cons _).trans (List.perm_append_comm (l₁ := [ns[i]])))
  · subst eδ
    rw [List.length_map] at pk ej
    rw [List.take_length] at pk
    exact ⟨_, rfl, q ks j (by omega) pk⟩
def rAllOf : List Sl → Nat → (List PyData → Nat → Prop) → Prop := fun ds n K => ∃ cs : List (List Int), ds = [.d (eP cs)] ∧ cs.length ≤ 1000 ∧ K ((allN cs.length).map .int) n
theorem okn_l_all_of (T : Tx K mg) {k : Nat} : FnOk P w K mg base CX0 (k + 1) T.f_l_all_of T.d_l_all_of ["_law_palette_here"] (spN rAllOf) := by
  refine okN T.F_l_all_of sc_l_all_of _ (fun cdv A outer s H E hr => ⟨_, (pss_one (ps_ret (pe_listRg rfl (by rfl) T.z_list (prg_1 (by rfl) T.z_range (pe_callB (len_K K) (by rfl) T.z_len PySem.boot_len (pa_cons (pv 0) pa_nil)))))),
      (ss_retSN (sn_rg1 (se_cb sc_len (sa_cons (sv 0) sa_nil))))⟩) (fun ds n Q ⟨_, e, _⟩ => by rw [e]; rfl) fun ds n Q ⟨cs, e, l, q⟩ => ?_
  subst e
  have hz : ((cs.map eC).length : Int) ≤ 1000 := by rw [List.length_map]; omega
  have hrg : RgOk 0 ((cs.map eC).length : Int) := RgOk.of_le (by omega) (by omega) (by omega) (by omega)
  refine ⟨_, rfl, _, rfl, _, .inl rfl, _, rfl, hrg, ?_⟩
  have e : ((List.range ((cs.map eC).length : Int).toNat).map fun i => PyData.int ((i : Nat) : Int)) = (allN cs.length).map .int := by
    unfold allN
    rw [Int.toNat_natCast, List.length_map, List.map_map]
    rfl
  rw [e]
  exact q
theorem lexB_tot (p q : Int × Int) : SrtO.lexB p q = false ∨ SrtO.lexB q p = false := by
  rw [SrtO.lexB_no, SrtO.lexB_no]
  omega
theorem srt_enc (ps : List (Int × Int)) : (ps.mergeSort (PySem.W.dataLe false enc)).Perm ps ∧ (ps.mergeSort (PySem.W.dataLe false enc)).Pairwise (fun a b => SrtO.lexB b a = false) := by
  have e : PySem.W.dataLe false enc = fun a b : Int × Int => !SrtO.lexB b a := by
    rw [PySem.W.dataLe_eq]
    funext a b
    show (!PySem.W.dataLt (enc b) (enc a)) = _
    rw [lt_enc]
  rw [e]
  refine ⟨List.mergeSort_perm _ _, ?_⟩
  have := List.pairwise_mergeSort (le := fun a b : Int × Int => !SrtO.lexB b a) (fun a b c h1 h2 => ?_) (fun a b => ?_) ps
  · exact this.imp fun h => by simpa using h
  · simp only [Bool.not_eq_true', SrtO.lexB_no] at h1 h2 ⊢
    omega
  · rcases lexB_tot a b with h | h
    · rw [h]; simp
    · rw [h]; simp
theorem enc_tup (p : Int × Int) : ∃ x r, enc p = .tuple (x :: r) := ⟨_, _, rfl⟩
/-! ### isinstance of two kinds, len(set(..)), is of bools, an own list read where what comes of it has no list -/
def fIsiT (a b : String) (fe : DE) : DE := fun δ k K => fe δ k fun d m => ∃ c1 c2, kitB (tyn d) a = some c1 ∧ kitB (tyn d) b = some c2 ∧ K (.bool (c1 || c2)) m
theorem kit2 {K : PySem.W.Frag} {t a b : String} {c1 c2 : Bool} (h1 : kitB t a = some c1) (h2 : kitB t b = some c2) : PySem.W.kitAny K (.type t) [.type a, .type b] = some (c1 || c2) := by
  cases c1 with
  | true => exact kitAny_cons (b := true) (kit_ty h1) (fun h => Bool.noConfusion h) (fun _ => rfl)
  | false => exact kitAny_cons (b := false) (kit_ty h1) (fun _ => kitAny_cons (b := c2) (r := c2) (kit_ty h2) (fun h => by rw [h]; rfl) (fun h => h)) (fun h => Bool.noConfusion h)
theorem se_isiT {K : PySem.W.Frag} {a b : String} {te : TE} {fe : DE} (he : SE te fe) : SE (tCB (rIsiT K) (tCons te (tCons (tTup (tCons (tC (.ty a)) (tCons (tC (.ty b)) tNil))) tNil))) (fIsiT a b fe) := ⟨fun h k q => he.run h k fun d m v H1 ⟨c1, c2, e1, e2, k1⟩ g1 l1 d1 => by
  refine ⟨(by show 2 ≤ sizeLine; decide), fun p hp => ?_⟩
  exact ⟨v, p, [.ty a, .ty b], .type (tyn d), [.type a, .type b], c1 || c2, rfl, upd_same, .cons (.ty _) (.cons (.ty _) .nil), (d1.s (sm_new hp)).ty, kit2 e1 e2, q _ _ _ _ k1 (g1.trans (Go.of (sm_new hp))) (l1.same (sm_new hp)) (.bl _)⟩⟩
theorem pe_lenSetK (K : PySem.W.Frag) {X : Cx} {a : Expr} {ta : TE} {p p2 q pos : Pos} (hg : Gl X "len") (hm : X.mg "len" = none) (hg2 : Gl X "set") (hm2 : X.mg "set" = none) (ha : PE X a ta) (hc : X.calm = true := by rfl) (hK : X.K = K := by rfl)
    (na : starEach [a] X.env = (false, eval a X.env) :: starEach [] X.env := by rfl) : PE X (.Call (.Name "len" p) [.Call (.Name "set" p2) [a] [] q] [] pos) (RZ.tLenSetI K ta) := by
  subst hK
  exact RZ.pe_lenSetI hg hm hg2 hm2 ha hc na
def fLenSetI (fe : DE) : DE := fun δ n K => fe δ n fun d m => ∃ ns : List Int, d = eI ns ∧ ns.Nodup ∧ ns.length ≤ 1000 ∧ K (.int (ns.length : Nat)) m
theorem se_lenSetI {K : PySem.W.Frag} {te : TE} {fe : DE} (he : SE te fe) : SE (RZ.tLenSetI K te) (fLenSetI fe) := ⟨fun h k q => he.run h k fun d m v H1 ⟨ns, e, nd, l1, k1⟩ g1 l2 d1 => by
  subst e
  obtain ⟨a, rfl, na, ha⟩ := d1.ints
  exact ⟨a, ns, rfl, SqL.of ha, nd, by omega, q _ _ _ _ k1 g1 l2 (.int _)⟩⟩
theorem sr_isBl : SR2 rIsB (rdBb fun i j => .bool (decide (i = j))) := ⟨fun hB hx hy ⟨i, j, e1, e2, k⟩ q => by
  subst e1 e2
  cases hx
  cases hy
  exact ⟨i, j, rfl, rfl, q _ _ _ k (Same.refl _) (.bl _)⟩⟩
theorem sr_notBl : SR2 rNotB (rdBb fun i j => .bool (!decide (i = j))) := ⟨fun hB hx hy ⟨i, j, e1, e2, k⟩ q => by
  subst e1 e2
  cases hx
  cases hy
  exact ⟨i, j, rfl, rfl, q _ _ _ k (Same.refl _) (.bl _)⟩⟩
theorem sr_neB : SR2 rNe (rdBb fun i j => .bool (!decide (i = j))) := ⟨fun hB hx hy ⟨i, j, e1, e2, k⟩ q => by
  subst e1 e2
  cases hx
  cases hy
  exact ⟨rfl, by
    have e : decide (V.bl i = V.bl j) = decide (i = j) := by rw [Bool.eq_iff_iff]; simp
    rw [e]
    exact q _ _ _ k (Same.refl _) (.bl _)⟩⟩
mutual
def noLst : PyData → Bool
  | .list _ => false
  | .tuple ds => noLstA ds
  | .dict _ => false
  | _ => true
def noLstA : List PyData → Bool
  | [] => true
  | d :: ds => noLst d && noLstA ds
end
mutual
theorem Dt.noL {B C : List Addr} {H : Hp} {a : Addr} {us : List V} (ha : H a = some (.lst us)) (hC : ∀ b ∈ C, b ∈ B ∨ b = a) : ∀ {v : V} {d : PyData}, Dt B H v d → noLst d = true → Dt C H v d
  | _, _, .non, _ => .non
  | _, _, .bl b, _ => .bl b
  | _, _, .int i, _ => .int i
  | _, _, .str x, _ => .str x
  | _, _, .lst _ _ _, h => by unfold noLst at h; cases h
  | _, _, .tup (a := p) (ds := ds) n hs hA, h => by
    unfold noLst at h
    refine .tup (fun q => ?_) hs (DtA.noL ha hC hA h)
    rcases hC p q with z | z
    · exact n z
    · rw [z, ha] at hs
      cases hs
theorem DtA.noL {B C : List Addr} {H : Hp} {a : Addr} {us : List V} (ha : H a = some (.lst us)) (hC : ∀ b ∈ C, b ∈ B ∨ b = a) : ∀ {vs : List V} {ds : List PyData}, DtA B H vs ds → noLstA ds = true → DtA C H vs ds
  | _, _, .nil, _ => .nil
  | _, _, .cons h1 h2, h => by
    unfold noLstA at h
    have := Bool.and_eq_true_iff.mp h
    exact .cons (Dt.noL ha hC h1 this.1) (DtA.noL ha hC h2 this.2)
end
theorem Rel.frz2 {L B O : List Addr} {H : Hp} {σ : L2.St} {δ : List Sl} {n : Nat} {xs : List PyData} (h : Rel L B O H σ δ n) {i : Nat} (e : δ[i]? = some (.o xs)) : ∃ a vs, a ∈ O ∧ H a = some (.lst vs) ∧ a ∉ L ∧ Rel L (B.filter (· ≠ a)) (O.filter (· ≠ a)) H σ (δ.set i (.d (.list xs))) n := by
  obtain ⟨a, vs, e1, ha, hs, hA⟩ := h.oo i xs e
  have sub : ∀ b ∈ B.filter (· ≠ a), b ∈ B := fun b hb => (List.mem_filter.mp hb).1
  refine ⟨a, vs, ha, hs, (h.ob a ha).2, ?_⟩
  exact {
    len := by rw [List.length_set]; exact h.len
    dd := fun j x ej => by
      rcases getset ej with ⟨rfl, z, _⟩ | ⟨z, ej⟩
      · cases z
        exact ⟨_, e1, .lst (fun q => by have := (List.mem_filter.mp q).2; simp at this) hs (hA.sub sub)⟩
      · obtain ⟨v, f1, dv⟩ := h.dd j x ej
        exact ⟨v, f1, dv.sub sub⟩
    oo := fun j zs ej => by
      rcases getset ej with ⟨_, z, _⟩ | ⟨z, ej⟩
      · cases z
      · obtain ⟨b, us, f1, hb, hsb, hB⟩ := h.oo j zs ej
        refine ⟨b, us, f1, List.mem_filter.mpr ⟨hb, ?_⟩, hsb, hB.sub sub⟩
        have : b ≠ a := fun q => z (h.uq j i zs xs a ej e (by rw [← q]; exact f1) e1)
        simpa using this
    uq := fun j k zs ts c ej ek f1 f2 => by
      rcases getset ej with ⟨_, z, _⟩ | ⟨z1, ej⟩
      · cases z
      rcases getset ek with ⟨_, z, _⟩ | ⟨z2, ek⟩
      · cases z
      exact h.uq _ _ _ _ c ej ek f1 f2
    kk := fun j tp ks ej => by
      rcases getset ej with ⟨_, z, _⟩ | ⟨z, ej⟩
      · cases z
      · obtain ⟨c, f1, hc, hd⟩ := h.kk j tp ks ej
        refine ⟨c, f1, List.mem_filter.mpr ⟨hc, ?_⟩, hd.to rfl fun _ _ hA => hA.sub sub⟩
        have : c ≠ a := fun q => by
          obtain ⟨o, eo, _, no, _⟩ := hd.at_
          rw [q, hs] at eo
          cases eo
          exact no _ rfl
        simpa using this
    uk := fun j k t t' xs ys c pj pk f1 f2 => by
      rcases getset pj with ⟨_, z, _⟩ | ⟨z1, ej⟩
      · cases z
      rcases getset pk with ⟨_, z, _⟩ | ⟨z2, ek⟩
      · cases z
      exact h.uk _ _ _ _ _ _ c ej ek f1 f2
    ll := fun j ej => by
      rcases getset ej with ⟨_, z, _⟩ | ⟨z, ej⟩
      · cases z
      · exact h.ll j ej
    vv := fun j u ej => by
      rcases getset ej with ⟨_, z, _⟩ | ⟨z, ej⟩
      · cases z
      · exact h.vv j u ej
    bk := fun b hb => h.bk b (sub b hb)
    ob := fun b hb => by
      have := List.mem_filter.mp hb
      exact ⟨List.mem_filter.mpr ⟨(h.ob b this.1).1, this.2⟩, (h.ob b this.1).2⟩
    lb := fun b hb => List.mem_filter.mpr ⟨h.lb b hb, by
      have : b ≠ a := fun q => (h.ob a ha).2 (by rw [← q]; exact hb)
      simpa using this⟩
    lf := h.lf }
def fFrzT (i : Nat) (f : DE) : DE := fun δ n K => ∃ xs, δ[i]? = some (.o xs) ∧ f (δ.set i (.d (.list xs))) n fun d m => noLst d = true ∧ K d m
theorem se_frzT {te : TE} {f : DE} (i : Nat) (h : SE te f) : SE te (fFrzT i f) := ⟨fun r ⟨xs, e, k⟩ q => by
  obtain ⟨a, vs, ha, hs, hL, r2⟩ := r.frz2 e
  refine h.run r2 k fun d m v H' ⟨hn, k2⟩ g l dv => q d m v H' k2 g l (Dt.noL (g.k a _ hL hs) (fun b hb => ?_) dv hn)
  by_cases e : b = a
  · exact .inr e
  · exact .inl (List.mem_filter.mpr ⟨hb, by simpa using e⟩)⟩
theorem kNt {i : Int} {n : String} {b : Bool} (h : kitB "int" n = some b) : kitB (tyn (.int i)) n = some b := h
theorem kTp {ds : List PyData} {n : String} {b : Bool} (h : kitB "tuple" n = some b) : kitB (tyn (.tuple ds)) n = some b := h
theorem kLs {ds : List PyData} {n : String} {b : Bool} (h : kitB "list" n = some b) : kitB (tyn (.list ds)) n = some b := h
theorem kSt {x : Str} {n : String} {b : Bool} (h : kitB "str" n = some b) : kitB (tyn (.str x)) n = some b := h
theorem kBl {x : Bool} {n : String} {b : Bool} (h : kitB "bool" n = some b) : kitB (tyn (.bool x)) n = some b := h
/-! ### x >= y of data alike; a walk over a list or a tuple, a slice of either -/
def rGeD (K : PySem.W.Frag) : R2 := fun x y H Q => ∃ da db, Dp K H x da ∧ Dp K H y db ∧ PySem.W.alike da db = true ∧ da ≠ .none ∧ da.depth ≤ 50 ∧ Q (.bl (!PySem.W.dataLt da db)) H
theorem op_geD (K : PySem.W.Frag) {X : Cx} (hu : X.A.units + 64 < cLine) (hK : X.K = K := by rfl) : OpR X (compareOp .GtE) (rGeD K) := by
  subst hK
  intro pins s σ H x y v u Q I rx ry h
  obtain ⟨d, e, hd, he, ha, hn, hdp, q⟩ := h
  obtain ⟨as, r1⟩ := Dp.reads I d x v hd rx
  obtain ⟨bs, r2⟩ := Dp.reads I e y u he ry
  exact PySem.W.ge_data r1 r2 ha hn (by have := Nat.min_le_left d.depth e.depth; omega) ⟨.bl _, H, I, rfl, q⟩
theorem sr_geD {K : PySem.W.Frag} : SR2 (rGeD K) (rdCm fun x y => !PySem.W.dataLt x y) := ⟨fun hB hx hy ⟨e1, e2, e3, k⟩ q => ⟨_, _, hx.dP, hy.dP, e1, e2, e3, q _ _ _ k (Same.refl _) (.bl _)⟩⟩
def fiSeq (fe : DE) : DI := fun δ n K => fiL fe δ n K ∨ fiT fe δ n K
theorem si_seq {K : PySem.W.Frag} {S : Bool} {te : TE} {fe : DE} (he : SE te fe) : SI S (iSeq K te) (fiSeq fe) := ⟨fun r k q => by
  rcases k with k | k
  · exact .inl ((si_list he).run r k q)
  · exact .inr ((si_tup he).run r k q)⟩
def fSlE (fe : DE) (fl fh : DO) : DE := fun δ n K => fe δ n fun d m => fl δ m fun lo j => fh δ j fun hi k => (∃ xs, d = .list xs ∧ K (.list (cutL xs lo hi)) k) ∨ (∃ xs, d = .tuple xs ∧ K (.tuple (cutL xs lo hi)) k)
theorem se_slE {K : PySem.W.Frag} {te : TE} {tl th : TO} {fe : DE} {fl fh : DO} (he : SE te fe) (hl : SO tl fl) (hh : SO th fh) : SE (tSl (fun x lo hi H Q => rSlL K x lo hi H Q ∨ rSlA K x lo hi H Q) te tl th) (fSlE fe fl fh) := ⟨fun {L B O H σ δ n Q K'} h k q => he.run h k fun d m v H1 k1 g1 l1 d1 => hl.run (h.go g1 l1) k1 fun lo j H2 k2 g2 l2 => hh.run ((h.go g1 l1).go g2 l2) k2 fun hi i H3 hk g3 l3 => by
  have g23 := g2.trans g3
  have bk3 := h.bk.go (g1.trans g23)
  rcases hk with ⟨xs, e, k3⟩ | ⟨xs, e, k3⟩ <;> subst e
  · obtain ⟨a, vs, rfl, _, ha, hA⟩ := (d1.g (g23.w h.lb)).lst2
    exact .inl ⟨a, vs, rfl, SqL.of ha, fun p hp => q _ _ _ _ k3 ((g1.trans g23).trans (Go.of (sm_new hp))) (l3.same (sm_new hp)) (.lst (bk3.ne hp) upd_same ((hA.cut lo hi).s (sm_new hp)))⟩
  · exact .inr (slice_dt (d1.g (g23.w h.lb)) bk3 fun u H4 s4 d4 => q _ _ _ _ k3 ((g1.trans g23).trans (Go.of s4)) (l3.same s4) d4)⟩
theorem eqv_sh {d : PyData} {k : Nat} (h : Sh d k) : PyData.eqv d d = true := SeqAt.eqv_refl d h.1
theorem eqvAll_map {α : Type} [DecidableEq α] {f : α → PyData} (h : ∀ a b, PyData.eqv (f a) (f b) = decide (a = b)) : ∀ xs ys : List α, PyData.eqvAll (xs.map f) (ys.map f) = decide (xs = ys)
  | [], [] => by simp [PyData.eqvAll]
  | [], _ :: _ => by simp [PyData.eqvAll]
  | _ :: _, [] => by simp [PyData.eqvAll]
  | x :: xs, y :: ys => by
    rw [List.map_cons, List.map_cons, PyData.eqvAll, h, eqvAll_map h xs ys]
    simp [List.cons.injEq, Bool.decide_and]
theorem eqv_eC (a b : List Int) : PyData.eqv (eC a) (eC b) = decide (a = b) := by
  unfold eC
  rw [PyData.eqv]
  exact eqvAll_map (f := PyData.int) (fun x y => by rw [PyData.eqv]; by_cases h : x = y <;> simp [h]) a b
theorem FnOk.no {k : Nat} {f : Addr} {fd : FuncData} {ps : List Str} : FnOk P w K mg base CX0 k f fd ps (spD fun _ _ _ => False) := ⟨fun vs H Q E h => by
    obtain ⟨_, _, _, _, _, _, _, _, _, h, _⟩ := h
    exact h.elim, fun A outer s H args us vs Q E hr e0 hb r h => by
    obtain ⟨_, _, _, _, _, _, _, _, _, h, _⟩ := h
    exact h.elim⟩
/-! ### trees: the maths -/
inductive Tr | leaf (lo hi ns : List Int) | node (lo hi : List Int) (a b : Tr)
def Tr.nums : Tr → List Int
  | .leaf _ _ ns => ns
  | .node _ _ a b => a.nums ++ b.nums
def Tr.lo : Tr → List Int
  | .leaf lo _ _ => lo
  | .node lo _ _ _ => lo
def Tr.hi : Tr → List Int
  | .leaf _ hi _ => hi
  | .node _ hi _ _ => hi
def Tr.sz : Tr → Nat
  | .leaf _ _ _ => 1
  | .node _ _ a b => a.sz + b.sz + 1
def Tr.dp : Tr → Nat
  | .leaf _ _ _ => 0
  | .node _ _ a b => max a.dp b.dp + 1
def eBh (lo hi : List Int) : PyData := .tuple [eC lo, eC hi]
def eT : Tr → PyData
  | .leaf lo hi ns => .tuple [.str "leaf", eBh lo hi, eC ns]
  | .node lo hi a b => .tuple [.str "node", eBh lo hi, eT a, eT b]
def colsAt (cs : List (List Int)) (ns : List Int) : List (List Int) := ns.map fun n => cs.getD n.toNat []
inductive TrOk (cs : List (List Int)) (w : Nat) : Tr → Prop
  | leaf {lo hi ns : List Int} : 0 < ns.length → (∀ n ∈ ns, 0 ≤ n ∧ n < (cs.length : Int)) → BoxAt (colsAt cs ns) w lo hi → TrOk cs w (.leaf lo hi ns)
  | node {lo hi : List Int} {a b : Tr} : TrOk cs w a → TrOk cs w b → BoxAt (colsAt cs (a.nums ++ b.nums)) w lo hi → TrOk cs w (.node lo hi a b)
theorem TrOk.box {cs : List (List Int)} {w : Nat} {t : Tr} (h : TrOk cs w t) : BoxAt (colsAt cs t.nums) w t.lo t.hi := by
  cases h with
  | leaf _ _ h => exact h
  | node _ _ h => exact h
theorem TrOk.inn {cs : List (List Int)} {w : Nat} : ∀ {t : Tr}, TrOk cs w t → ∀ n ∈ t.nums, 0 ≤ n ∧ n < (cs.length : Int)
  | .leaf _ _ _, h, n, hn => by
    cases h with
    | leaf _ h _ => exact h n hn
  | .node _ _ a b, h, n, hn => by
    cases h with
    | node h1 h2 _ =>
      rcases List.mem_append.mp hn with q | q
      · exact h1.inn n q
      · exact h2.inn n q
theorem TrOk.pos {cs : List (List Int)} {w : Nat} : ∀ {t : Tr}, TrOk cs w t → 0 < t.nums.length
  | .leaf _ _ _, h => by
    cases h with
    | leaf h _ _ => exact h
  | .node _ _ a b, h => by
    cases h with
    | node h1 h2 _ =>
      have := h1.pos
      unfold Tr.nums
      rw [List.length_append]
      omega
theorem BoxAt.cin {xs : List (List Int)} {w : Nat} {lo hi : List Int} (b : BoxAt xs w lo hi) (hx : ∀ x ∈ xs, x.length = w ∧ cIn 0 999 x) : cIn 0 999 lo ∧ cIn 0 999 hi := by
  have key : ∀ {ns : List Int}, ns.length = w → (∀ p, p < w → ∃ c ∈ xs, ns.getD p 0 = c.getD p 0) → cIn 0 999 ns := fun {ns} hl h x hm => by
    obtain ⟨p, hp, e⟩ := List.getElem_of_mem hm
    obtain ⟨c, hc, ec⟩ := h p (by omega)
    rw [List.getD_eq_getElem?_getD, List.getElem?_eq_getElem hp] at ec
    have hpc : p < c.length := by rw [(hx c hc).1]; omega
    rw [List.getD_eq_getElem?_getD, List.getElem?_eq_getElem hpc] at ec
    have := (hx c hc).2 _ (List.getElem_mem hpc)
    rw [← e]
    simp only [Option.getD_some] at ec
    omega
  exact ⟨key b.l1 fun p hp => (b.lo p hp).1, key b.l2 fun p hp => (b.hi p hp).1⟩
theorem BoxAt.hol {xs : List (List Int)} {w : Nat} {lo hi : List Int} (b : BoxAt xs w lo hi) {x : List Int} (hx : x ∈ xs) (hw : x.length = w) : hol lo x hi = true := by
  unfold Z.hol
  refine List.all_eq_true.mpr fun p hp => ?_
  have hp := List.mem_range.mp hp
  unfold hF
  rw [decide_eq_true ((b.lo p (by omega)).2 x hx), decide_eq_true ((b.hi p (by omega)).2 x hx)]
  rfl
theorem BoxAt.perm {xs ys : List (List Int)} {w : Nat} {lo hi : List Int} (b : BoxAt xs w lo hi) (h : xs.Perm ys) : BoxAt ys w lo hi := ⟨b.l1, b.l2, fun p hp => ⟨by
    obtain ⟨c, hc, e⟩ := (b.lo p hp).1
    exact ⟨c, h.mem_iff.mp hc, e⟩, fun c hc => (b.lo p hp).2 c (h.mem_iff.mpr hc)⟩, fun p hp => ⟨by
    obtain ⟨c, hc, e⟩ := (b.hi p hp).1
    exact ⟨c, h.mem_iff.mp hc, e⟩, fun c hc => (b.hi p hp).2 c (h.mem_iff.mpr hc)⟩⟩
theorem colsAt_ok {cs : List (List Int)} {w : Nat} {ns : List Int} (hc : ∀ x ∈ cs, x.length = w ∧ cIn 0 999 x) (hn : ∀ n ∈ ns, 0 ≤ n ∧ n < (cs.length : Int)) : ∀ x ∈ colsAt cs ns, x.length = w ∧ cIn 0 999 x := fun x hx => by
  obtain ⟨n, hm, rfl⟩ := List.mem_map.mp hx
  have h := hn n hm
  have h2 : n.toNat < cs.length := by omega
  rw [List.getD_eq_getElem?_getD, List.getElem?_eq_getElem h2]
  exact hc _ (List.getElem_mem h2)
theorem Tr.szle {cs : List (List Int)} {w : Nat} : ∀ {t : Tr}, TrOk cs w t → t.sz + 1 ≤ 2 * t.nums.length
  | .leaf _ _ _, h => by
    cases h with
    | leaf h _ _ => unfold Tr.sz Tr.nums; omega
  | .node _ _ a b, h => by
    cases h with
    | node h1 h2 _ =>
      have := Tr.szle h1
      have := Tr.szle h2
      unfold Tr.sz Tr.nums
      rw [List.length_append]
      omega
theorem Tr.dple {cs : List (List Int)} {w : Nat} : ∀ {t : Tr}, TrOk cs w t → t.dp + 1 ≤ t.nums.length
  | .leaf _ _ _, h => by
    cases h with
    | leaf h _ _ => unfold Tr.dp Tr.nums; omega
  | .node _ _ a b, h => by
    cases h with
    | node h1 h2 _ =>
      have := Tr.dple h1
      have := Tr.dple h2
      unfold Tr.dp Tr.nums
      rw [List.length_append]
      omega
theorem sh_leaf (k : Nat) : Sh (.str "leaf") k := ⟨by decide +kernel, by rw [PyData.depth]; omega, by rw [wide]⟩
theorem sh_node (k : Nat) : Sh (.str "node") k := ⟨by decide +kernel, by rw [PyData.depth]; omega, by rw [wide]⟩
theorem sh_eT {cs : List (List Int)} {w : Nat} (hw : w ≤ 10) : ∀ {t : Tr}, TrOk cs w t → t.nums.length ≤ 1000 → Sh (eT t) (t.dp + 3)
  | .leaf lo hi ns, h, hl => by
    cases h with
    | leaf h _ b =>
      have b1 := b.l1
      have b2 := b.l2
      unfold Tr.nums at hl
      refine sh_tup (by simp) fun d hd => ?_
      simp only [List.mem_cons, List.not_mem_nil, or_false] at hd
      rcases hd with rfl | rfl | rfl
      · exact sh_leaf _
      · refine (sh_tup (k := 1) (by simp) fun d hd => ?_).mono (by unfold Tr.dp; omega)
        simp only [List.mem_cons, List.not_mem_nil, or_false] at hd
        rcases hd with rfl | rfl
        · exact sh_eC (by omega)
        · exact sh_eC (by omega)
      · exact (sh_eC (by omega)).mono (by unfold Tr.dp; omega)
  | .node lo hi a b, h, hl => by
    cases h with
    | node h1 h2 bx =>
      have b1 := bx.l1
      have b2 := bx.l2
      unfold Tr.nums at hl
      rw [List.length_append] at hl
      have s1 := sh_eT hw h1 (by omega)
      have s2 := sh_eT hw h2 (by omega)
      refine sh_tup (by simp) fun d hd => ?_
      simp only [List.mem_cons, List.not_mem_nil, or_false] at hd
      unfold Tr.dp
      rcases hd with rfl | rfl | rfl | rfl
      · exact sh_node _
      · refine (sh_tup (k := 1) (by simp) fun d hd => ?_).mono (by omega)
        simp only [List.mem_cons, List.not_mem_nil, or_false] at hd
        rcases hd with rfl | rfl
        · exact sh_eC (by omega)
        · exact sh_eC (by omega)
      · exact s1.mono (by omega)
      · exact s2.mono (by omega)
/-! ### the program's box, by data -/
theorem box_is {cs : List (List Int)} {wd : Nat} (h0 : 0 < cs.length) : BoxAt cs wd (boxLo cs wd) (boxHi cs wd) := by
  refine ⟨boxLo_len cs wd, boxHi_len cs wd, fun p hp => ?_, fun p hp => ?_⟩
  · obtain ⟨m, _, em, hm⟩ := boxLo_at h0 hp
    rw [em]
    refine ⟨?_, fun c hc => hm.2 _ (List.mem_map_of_mem (f := fun c : List Int => c.getD p 0) hc)⟩
    obtain ⟨c, hc, e⟩ := List.mem_map.mp hm.1
    exact ⟨c, hc, e.symm⟩
  · obtain ⟨m, _, em, hm⟩ := boxHi_at h0 hp
    rw [em]
    refine ⟨?_, fun c hc => hm.2 _ (List.mem_map_of_mem (f := fun c : List Int => c.getD p 0) hc)⟩
    obtain ⟨c, hc, e⟩ := List.mem_map.mp hm.1
    exact ⟨c, hc, e.symm⟩
def rBoxOf : List Sl → Nat → DQ → Prop := fun ds n K => ∃ (cs : List (List Int)) (wd : Nat), ds = [.d (eP cs)] ∧ 0 < cs.length ∧ cs.length ≤ 1000 ∧ wd ≤ 100 ∧ (∀ c ∈ cs, c.length = wd) ∧ ∀ lo hi, BoxAt cs wd lo hi → K (eBh lo hi) n
theorem okd_box_of (T : Tx K mg) {k : Nat} : FnOk P w K mg base CX0 (k + 2) T.f_box_of T.d_box_of ["colours"] (spD rBoxOf) := (ok_box_of T).imp fun vs H Q E h => by
  obtain ⟨L, B, ds, n, K', hv, hB, lb, lf, ⟨cs, wd, e, c0, c1, w1, cw, k⟩, q⟩ := h
  subst e
  cases hv with
  | d h1 h2 =>
    cases h2
    exact ⟨B, B, _, cs, wd, rfl, h1, hB, c0, c1, w1, cw, fun v' H' s d => q _ _ _ _ (k _ _ (box_is c0)) (Go.of s) (lf.same s) d⟩
theorem BoxAt.one1 {cs : List (List Int)} {w : Nat} {lo hi lo' hi' : List Int} (h : BoxAt cs w lo hi) (g : BoxAt cs w lo' hi') : lo = lo' ∧ hi = hi' := by
  refine ⟨list_at (h.l1.trans g.l1.symm) fun p hp => ?_, list_at (h.l2.trans g.l2.symm) fun p hp => ?_⟩
  · rw [h.l1] at hp
    obtain ⟨c, hc, e⟩ := (h.lo p hp).1
    obtain ⟨c', hc', e'⟩ := (g.lo p hp).1
    have := (h.lo p hp).2 c' hc'
    have := (g.lo p hp).2 c hc
    omega
  · rw [h.l2] at hp
    obtain ⟨c, hc, e⟩ := (h.hi p hp).1
    obtain ⟨c', hc', e'⟩ := (g.hi p hp).1
    have := (h.hi p hp).2 c' hc'
    have := (g.hi p hp).2 c hc
    omega
theorem box_uni {cs : List (List Int)} {wd : Nat} {lo hi : List Int} (h0 : 0 < cs.length) (b : BoxAt cs wd lo hi) : lo = boxLo cs wd ∧ hi = boxHi cs wd := b.one1 (box_is h0)
theorem isCol_eC (ns : List Int) (m : Int) : isCol (eC ns) m = decide ((ns.length : Int) = m) := by
  show (decide (((ns.map PyData.int).length : Int) = m) && (ns.map PyData.int).all isNum) = _
  rw [List.length_map]
  have : (ns.map PyData.int).all isNum = true := List.all_eq_true.mpr fun d hd => by
    obtain ⟨x, _, rfl⟩ := List.mem_map.mp hd
    rfl
  rw [this, Bool.and_true]
theorem sh_eBh {lo hi : List Int} (l1 : lo.length ≤ 100) (l2 : hi.length ≤ 100) : Sh (eBh lo hi) 2 := sh_tup (by simp) fun d hd => by
  simp only [List.mem_cons, List.not_mem_nil, or_false] at hd
  rcases hd with rfl | rfl
  · exact sh_eC (by omega)
  · exact sh_eC (by omega)
theorem cat_of {cs : List (List Int)} {x : Int} (h0 : 0 ≤ x) (h1 : x < (cs.length : Int)) : atI (cs.map eC) x = some (eC (cs.getD x.toNat [])) := at0 h0 (by
  have h : x.toNat < cs.length := by omega
  rw [List.getElem?_map, List.getElem?_eq_getElem h, List.getD_eq_getElem?_getD, List.getElem?_eq_getElem h]
  rfl)
theorem lt_of_srt {ks : List Int} (h : ks.Pairwise (· ≤ ·)) (nd : ks.Nodup) : ks.Pairwise (· < ·) := (h.and nd).imp fun h => by omega
/-! ### numbers that rise, of any list or tuple -/
theorem all_nums : ∀ {xs : List PyData}, (xs.map isNum).all id = true → ∃ ns : List Int, xs = ns.map PyData.int
  | [], _ => ⟨[], rfl⟩
  | x :: xs, h => by
    rw [List.map_cons, List.all_cons] at h
    obtain ⟨h1, h2⟩ := Bool.and_eq_true_iff.mp h
    obtain ⟨ns, rfl⟩ := all_nums h2
    cases x with
    | int i => exact ⟨i :: ns, rfl⟩
    | _ => exact absurd h1 (by simp [isNum])
theorem ints_all (ns : List Int) : ((ns.map PyData.int).map isNum).all id = true := by
  induction ns with
  | nil => rfl
  | cons x t ih => rw [List.map_cons, List.map_cons, List.all_cons, ih]; rfl
theorem ints_one : ∀ {ns ks : List Int}, ns.map PyData.int = ks.map PyData.int → ns = ks
  | [], [], _ => rfl
  | n :: ns, k :: ks, h => by
    rw [List.map_cons, List.map_cons] at h
    injection h with h1 h2
    injection h1 with h1
    rw [h1, ints_one h2]
  | [], _ :: _, h => by cases h
  | _ :: _, [], h => by cases h
theorem risB_pw : ∀ {ns : List Int}, risB ns = true ↔ ns.Pairwise (· < ·)
  | [] => ⟨fun _ => .nil, fun _ => rfl⟩
  | [x] => ⟨fun _ => List.pairwise_singleton _ _, fun _ => rfl⟩
  | x :: y :: ns => by
    rw [risB_cons, Bool.and_eq_true, decide_eq_true_iff, risB_pw (ns := y :: ns)]
    constructor
    · rintro ⟨h1, h2⟩
      refine List.pairwise_cons.mpr ⟨fun z hz => ?_, h2⟩
      rcases List.mem_cons.mp hz with e | e
      · rw [e]; exact h1
      · have := (List.pairwise_cons.mp h2).1 z e
        omega
    · intro h
      exact ⟨(List.pairwise_cons.mp h).1 y (List.mem_cons_self ..), (List.pairwise_cons.mp h).2⟩
theorem fm_id {α : Type} (xs : List α) : (List.range xs.length).filterMap (fun i => xs[i]?) = xs := by
  have := fmM xs (fun x => x)
  simpa using this
/-- a list or a tuple of these -/
def Sq (d : PyData) (xs : List PyData) : Prop := d = .list xs ∨ d = .tuple xs
def rRisP : List Sl → Nat → DQ → Prop := fun ds n K => ∃ (d : PyData) (xs : List PyData), ds = [.d d] ∧ Sq d xs ∧ xs.length ≤ 100000 ∧ ∀ b : Bool, (b = true ↔ ∃ ns : List Int, xs = ns.map PyData.int ∧ ns.Pairwise (· < ·)) → K (.bool b) n
def rIsNum : List Sl → Nat → DQ → Prop := fun ds n K => ∃ d : PyData, ds = [.d d] ∧ K (.bool (isNum d)) n
theorem okd_is_number (T : Tx K mg) {k : Nat} : FnOk P w K mg base CX0 (k + 1) T.f_is_number T.d_is_number ["thing"] (spD rIsNum) := (ok_is_number T).imp fun vs H Q E h => by
  obtain ⟨L, B, ds, n, K', hv, hB, lb, lf, ⟨d, e, k⟩, q⟩ := h
  subst e
  cases hv with
  | d h1 h2 =>
    cases h2
    exact ⟨B, _, d, rfl, h1, q _ _ _ _ k Go.refl lf (.bl _)⟩
theorem okd_are_rising (T : Tx K mg) {k : Nat} : FnOk P w K mg base CX0 (k + 2) T.f_are_rising T.d_are_rising ["things"] (spD rRisP) := by
  refine okD T.F_are_rising sc_are_rising _ (fun cdv A outer s H E hr => ⟨_, (pss_cons (ps_if (pt_not (pt_val (pe_callB (cr_allK K rfl) (by rfl) T.z_all (by decide +kernel) (pa_cons (pe_lc (own := [("thing", 1)]) (by rfl) sc_are_rising.nd (pi_seqK K (pv 0)) (blkOk_by (own := [("thing", 1)]) (N := N_are_rising) (sc := defScope s_are_rising) (by decide +kernel)) (fun _ _ _ _ _ => (pg_name (i := 1) sc_are_rising.nd rfl (.inl rfl))) (fun _ _ _ _ _ => pts_nil) (fun _ _ _ _ _ => (pe_call (okd_is_number T (k := k)) hr (by rfl) T.g_is_number T.F_is_number.kp T.b_is_number .nil pass0 (pa_cons (pv 1) pa_nil)))) pa_nil)))) (pss_one (ps_ret pe_bl)) pss_nil)
      (pss_one (ps_ret (pe_callB (cr_allK K rfl) (by rfl) T.z_all (by decide +kernel) (pa_cons (pe_lc (own := [("a", 2), ("b", 3)]) (by rfl) sc_are_rising.nd (RZ.pi_zipA (by rfl) T.z_zip (pa_cons (pv 0) (pa_cons (pe_slice (SlR.or (sl_listK K) (sl_tupAK K)) (pv 0) (po_some pe_int) po_none) pa_nil))) (blkOk_by (own := [("a", 2), ("b", 3)]) (N := N_are_rising) (sc := defScope s_are_rising) (by decide +kernel)) (fun _ _ _ _ _ => (pg_tupK K (n := 2) rfl (pgs_cons (pg_name (i := 2) sc_are_rising.nd rfl (.inl rfl)) (pgs_cons (pg_name (i := 3) sc_are_rising.nd rfl (.inl rfl)) pgs_nil)))) (fun _ _ _ _ _ => pts_nil) (fun _ _ _ _ _ => (pe_cmpR op_lt (pv 2) (pv 3) (nomark _)))) pa_nil))))),
      (ss_seq (ss_if (st_not (st_B (se_cb sc_all (sa_cons (SN.se (sn_lc (si_seq (sv 0)) sg_name st_yesD (se_call (sa_cons (sv 1) sa_nil)) (by decide))) sa_nil)))) (ss_ret se_bl) ss_next)
      (ss_ret (se_cb sc_all (sa_cons (SN.se (sn_lc (si_zip (sa_cons (sv 0) (sa_cons (se_slE (sv 0) (so_some se_int) so_none) sa_nil))) (sg_tup (sgs_cons sg_name (sgs_cons sg_name sgs_nil))) st_yesD (se_op sr_bool (sv 2) (sv 3)) (by decide))) sa_nil))))⟩) (fun ds n Q ⟨_, _, e, _⟩ => by rw [e]; rfl) fun ds n Q ⟨d, xs, e, ed, lx, q⟩ => ?_
  subst e
  rcases ed with rfl | rfl
  · refine .inl ⟨_, rfl, _, rfl, lcD (by omega) (fun i => (xs[i]?).map fun x => .bool (isNum x)) (fun i d Ky Kn ed ky kn => ?_) ?_⟩
    · exact ⟨_, rfl, d, rfl, ky _ (by rw [ed]; rfl)⟩
    rw [fmM]
    refine ⟨_, rfl, xs.map isNum, by rw [List.map_map]; rfl, ?_⟩
    dsimp only
    cases hb : (xs.map isNum).all id with
    | false =>
      refine ⟨_, rfl, iteT ?_⟩
      refine q false ⟨fun h => (by cases h), fun ⟨ns, e, _⟩ => ?_⟩
      rw [e, ints_all] at hb
      cases hb
    | true =>
      refine ⟨_, rfl, iteN rfl ?_⟩
      obtain ⟨ns, rfl⟩ := all_nums hb
      rw [List.length_map] at lx
      refine ⟨_, rfl, _, rfl, _, rfl, .inl ⟨_, rfl, _, _, .inl rfl, lcD (by rw [zpD_len, cutL1, List.length_drop, List.length_map]; omega) (fun i => (((ns.zip (ns.drop 1)).map fun p => decide (p.1 < p.2)).map PyData.bool)[i]?) (fun i d Ky Kn ed ky kn => ?_) ?_⟩⟩
      · have hi := (List.getElem?_eq_some_iff.mp ed).1
        rw [zpD_len, cutL1, List.length_drop, List.length_map] at hi
        have h1 : i < ns.length := by omega
        have h2 : i < (ns.drop 1).length := by rw [List.length_drop]; omega
        rw [zpD_get (x := .int ns[i]) (y := .int (ns.drop 1)[i]) (by rw [cutL1, List.length_drop, List.length_map]; exact hi) (by rw [List.getElem?_map, List.getElem?_eq_getElem h1]; rfl) (by rw [cutL1, ← List.map_drop, List.getElem?_map, List.getElem?_eq_getElem h2]; rfl)] at ed
        cases ed
        refine ⟨_, rfl, rfl, _, _, rfl, _, _, rfl, rfl, _, rfl, _, rfl, _, _, rfl, rfl, ky _ ?_⟩
        rw [List.getElem?_map, List.getElem?_map, List.getElem?_zip_eq_some (z := (ns[i], (ns.drop 1)[i])) |>.mpr ⟨List.getElem?_eq_getElem h1, List.getElem?_eq_getElem h2⟩]
        rfl
      · have el : min (ns.map PyData.int).length (cutL (ns.map PyData.int) (some 1) none).length = (((ns.zip (ns.drop 1)).map fun p => decide (p.1 < p.2)).map PyData.bool).length := by
          rw [cutL1, List.length_drop, List.length_map, List.length_map, List.length_map, List.length_zip, List.length_drop]
        rw [zpD_len, el, fm_id]
        refine ⟨_, rfl, (ns.zip (ns.drop 1)).map fun p => decide (p.1 < p.2), rfl, ?_⟩
        refine q _ ⟨fun h => ⟨ns, rfl, risB_pw.mp h⟩, fun ⟨ks, e, h⟩ => ?_⟩
        rw [ints_one e]
        exact risB_pw.mpr h
  · refine .inr ⟨_, rfl, _, rfl, lcD (by omega) (fun i => (xs[i]?).map fun x => .bool (isNum x)) (fun i d Ky Kn ed ky kn => ?_) ?_⟩
    · exact ⟨_, rfl, d, rfl, ky _ (by rw [ed]; rfl)⟩
    rw [fmM]
    refine ⟨_, rfl, xs.map isNum, by rw [List.map_map]; rfl, ?_⟩
    dsimp only
    cases hb : (xs.map isNum).all id with
    | false =>
      refine ⟨_, rfl, iteT ?_⟩
      refine q false ⟨fun h => (by cases h), fun ⟨ns, e, _⟩ => ?_⟩
      rw [e, ints_all] at hb
      cases hb
    | true =>
      refine ⟨_, rfl, iteN rfl ?_⟩
      obtain ⟨ns, rfl⟩ := all_nums hb
      rw [List.length_map] at lx
      refine ⟨_, rfl, _, rfl, _, rfl, .inr ⟨_, rfl, _, _, .inr rfl, lcD (by rw [zpD_len, cutL1, List.length_drop, List.length_map]; omega) (fun i => (((ns.zip (ns.drop 1)).map fun p => decide (p.1 < p.2)).map PyData.bool)[i]?) (fun i d Ky Kn ed ky kn => ?_) ?_⟩⟩
      · have hi := (List.getElem?_eq_some_iff.mp ed).1
        rw [zpD_len, cutL1, List.length_drop, List.length_map] at hi
        have h1 : i < ns.length := by omega
        have h2 : i < (ns.drop 1).length := by rw [List.length_drop]; omega
        rw [zpD_get (x := .int ns[i]) (y := .int (ns.drop 1)[i]) (by rw [cutL1, List.length_drop, List.length_map]; exact hi) (by rw [List.getElem?_map, List.getElem?_eq_getElem h1]; rfl) (by rw [cutL1, ← List.map_drop, List.getElem?_map, List.getElem?_eq_getElem h2]; rfl)] at ed
        cases ed
        refine ⟨_, rfl, rfl, _, _, rfl, _, _, rfl, rfl, _, rfl, _, rfl, _, _, rfl, rfl, ky _ ?_⟩
        rw [List.getElem?_map, List.getElem?_map, List.getElem?_zip_eq_some (z := (ns[i], (ns.drop 1)[i])) |>.mpr ⟨List.getElem?_eq_getElem h1, List.getElem?_eq_getElem h2⟩]
        rfl
      · have el : min (ns.map PyData.int).length (cutL (ns.map PyData.int) (some 1) none).length = (((ns.zip (ns.drop 1)).map fun p => decide (p.1 < p.2)).map PyData.bool).length := by
          rw [cutL1, List.length_drop, List.length_map, List.length_map, List.length_map, List.length_zip, List.length_drop]
        rw [zpD_len, el, fm_id]
        refine ⟨_, rfl, (ns.zip (ns.drop 1)).map fun p => decide (p.1 < p.2), rfl, ?_⟩
        refine q _ ⟨fun h => ⟨ns, rfl, risB_pw.mp h⟩, fun ⟨ks, e, h⟩ => ?_⟩
        rw [ints_one e]
        exact risB_pw.mpr h
/-! ### some numbers of a palette, of any list or tuple -/
def SomeP (m : Nat) (xs : List PyData) (ns : List Int) : Prop := xs = ns.map PyData.int ∧ 0 < ns.length ∧ ns.Pairwise (· < ·) ∧ ∀ n ∈ ns, 0 ≤ n ∧ n < (m : Int)
def rSomeP : List Sl → Nat → DQ → Prop := fun ds n K => ∃ (cs : List (List Int)) (d : PyData) (xs : List PyData), ds = [.d (eP cs), .d d] ∧ Sq d xs ∧ xs.length ≤ 100000 ∧ cs.length ≤ 1000 ∧ ∀ b : Bool, (b = true ↔ ∃ ns, SomeP cs.length xs ns) → K (.bool b) n
theorem last_gt : ∀ {ns : List Int}, ns.Pairwise (· < ·) → ∀ n ∈ ns, n ≤ ns.getLastD 0
  | [], _, _, h => nomatch h
  | [x], _, n, h => by rw [List.mem_singleton.mp h]; exact Int.le_refl _
  | x :: y :: ns, h, n, hn => by
    have h2 := (List.pairwise_cons.mp h).2
    have e : (x :: y :: ns).getLastD 0 = (y :: ns).getLastD 0 := rfl
    rw [e]
    rcases List.mem_cons.mp hn with q | q
    · have a := (List.pairwise_cons.mp h).1 y (List.mem_cons_self ..)
      have b := last_gt h2 y (List.mem_cons_self ..)
      omega
    · exact last_gt h2 n q
theorem last_mem : ∀ {ns : List Int}, 0 < ns.length → ns.getLastD 0 ∈ ns
  | [], h => absurd h (by decide)
  | [x], _ => List.mem_singleton.mpr rfl
  | x :: y :: ns, _ => List.mem_cons_of_mem _ (last_mem (ns := y :: ns) (by simp))
theorem at_last {ns : List Int} (h : 0 < ns.length) : atI (ns.map PyData.int) (-1) = some (.int (ns.getLastD 0)) := by
  have e : ixN (ns.map PyData.int).length (-1) = some (ns.length - 1) := by
    unfold ixN
    rw [if_neg (by decide), List.length_map, if_pos (by omega)]
    congr 1
    omega
  unfold atI
  rw [e]
  show (ns.map PyData.int)[ns.length - 1]? = _
  rw [List.getElem?_map, List.getElem?_eq_getElem (by omega)]
  cases ns with
  | nil => exact absurd h (by decide)
  | cons x t =>
    rw [show (x :: t).getLastD 0 = (x :: t).getLast (by simp) from (List.getLast_eq_getLastD (by simp)).symm, List.getLast_eq_getElem]
    rfl
theorem Sq.one {d : PyData} {xs : List PyData} (h : Sq d xs) : [d] = [.list xs] ∨ [d] = [.tuple xs] := by
  rcases h with rfl | rfl
  · exact .inl rfl
  · exact .inr rfl
theorem okd_are_some (T : Tx K mg) {k : Nat} : FnOk P w K mg base CX0 (k + 3) T.f_are_some T.d_are_some ["palette", "numbers"] (spD rSomeP) := by
  refine okD T.F_are_some sc_are_some _ (fun cdv A outer s H E hr => ⟨_, (pss_cons (ps_if (PW.pt (pw_or (pt_cmpR op_eq (pe_callB (len_K K) (by rfl) T.z_len PySem.boot_len (pa_cons (pv 1) pa_nil)) pe_int (nomark _)) (pw_or1 (pt_not (pt_val (pe_call (okd_are_rising T (k := k)) hr (by rfl) T.g_are_rising T.F_are_rising.kp T.b_are_rising .nil pass0 (pa_cons (pv 1) pa_nil))))))) (pss_one (ps_ret pe_bl)) pss_nil)
      (pss_one (ps_ret (pe_and (pe_cmpR op_ge (pe_ix (IxR.or (ix_listK K) (ix_tupK K)) (pv 1) pe_int (fun _ _ => rfl)) pe_int (nomark _)) (pe_one (pe_cmpR op_lt (pe_ix (IxR.or (ix_listK K) (ix_tupK K)) (pv 1) (pe_un un_neg pe_int) (fun _ _ => rfl)) (pe_callB (len_K K) (by rfl) T.z_len PySem.boot_len (pa_cons (pv 0) pa_nil)) (nomark _))))))),
      (ss_seq (ss_if (st_or (st_test (se_op sr_eqI (se_cb sc_len (sa_cons (sv 1) sa_nil)) se_int)) (st_not (st_B (se_call (sa_cons (sv 1) sa_nil))))) (ss_ret se_bl) ss_next)
      (ss_ret (se_and (se_op sr_bool (se_op (sr_or sr_ixL sr_ixT) (sv 1) se_int) se_int) (se_op sr_bool (se_op (sr_or sr_ixL sr_ixT) (sv 1) (se_neg se_int)) (se_cb sc_len (sa_cons (sv 0) sa_nil))))))⟩) (fun ds n Q ⟨_, _, _, e, _⟩ => by rw [e]; rfl) fun ds n Q ⟨cs, d, xs, e, ed, lx, lc, q⟩ => ?_
  subst e
  refine ⟨_, rfl, _, rfl, xs, ed.one, _, _, rfl, rfl, _, rfl, ?_⟩
  dsimp only
  by_cases l0 : (xs.length : Int) = 0
  · rw [decide_eq_true l0]
    refine iteT (q false ⟨fun h => (by cases h), fun ⟨ns, e, n0, _⟩ => ?_⟩)
    rw [e, List.length_map] at l0
    omega
  rw [decide_eq_false l0]
  refine iteN rfl ?_
  refine ⟨_, rfl, d, xs, rfl, ed, lx, fun b hb => ⟨_, rfl, ?_⟩⟩
  cases b with
  | false =>
    refine iteT (q false ⟨fun h => (by cases h), fun ⟨ns, e, n0, pw, _⟩ => ?_⟩)
    have := hb.mpr ⟨ns, e, pw⟩
    cases this
  | true =>
    obtain ⟨ns, e, pw⟩ := hb.mp rfl
    subst e
    rw [List.length_map] at l0 lx
    have n0 : 0 < ns.length := by omega
    refine iteN rfl ?_
    have a0 : atI (ns.map PyData.int) 0 = some (.int (ns.headD 0)) := at0 (by decide) (by
      cases ns with
      | nil => exact absurd n0 (by decide)
      | cons x t => rfl)
    have a1 := at_last n0
    have ix : ∀ {j : Int} {y : Int} {X : PyData → Prop}, atI (ns.map PyData.int) j = some (.int y) → X (.int y) → (rdIxL d (.int j) X ∨ rdIxT d (.int j) X) := fun {j y X} h k => by
      rcases ed with e | e
      · exact .inl ⟨_, _, _, e, rfl, h, k⟩
      · exact .inr ⟨_, _, _, e, rfl, h, k⟩
    have hd : ns.headD 0 ∈ ns := by
      cases ns with
      | nil => exact absurd n0 (by decide)
      | cons x t => exact List.mem_cons_self ..
    refine ⟨_, rfl, ix a0 ⟨_, _, rfl, rfl, decide (0 ≤ ns.headD 0), rfl, ?_⟩⟩
    by_cases c0 : 0 ≤ ns.headD 0
    · rw [decide_eq_true c0]
      refine iteT ⟨_, rfl, _, rfl, ix a1 ⟨_, rfl, _, rfl, _, .inl rfl, _, _, rfl, rfl, ?_⟩⟩
      refine q _ ⟨fun h => ?_, fun ⟨ks, e, _, _, h⟩ => ?_⟩
      · have h := of_decide_eq_true h
        rw [List.length_map] at h
        refine ⟨ns, rfl, n0, pw, fun n hn => ⟨?_, ?_⟩⟩
        · cases ns with
          | nil => cases hn
          | cons x t =>
            have c0 : 0 ≤ x := c0
            rcases List.mem_cons.mp hn with q | q
            · omega
            · have := (List.pairwise_cons.mp pw).1 n q
              omega
        · have := last_gt pw n hn
          omega
      · rw [← ints_one e] at h
        have := h _ (last_mem n0)
        rw [List.length_map]
        exact decide_eq_true this.2
    · rw [decide_eq_false c0]
      refine iteN rfl (q false ⟨fun h => (by cases h), fun ⟨ks, e, _, _, h⟩ => ?_⟩)
      rw [← ints_one e] at h
      exact absurd (h _ hd).1 c0
theorem isi_tup {d : PyData} {j : Nat} (h : Sh d j) : ∃ b, kitB (tyn d) "tuple" = some b ∧ (b = true ↔ ∃ xs, d = .tuple xs) := by
  cases d with
  | none => exact ⟨false, (by decide +kernel : kitB "NoneType" "tuple" = some false), fun h => (by cases h), fun ⟨_, e⟩ => (by cases e)⟩
  | bool b => exact ⟨false, kBl (by decide +kernel), fun h => (by cases h), fun ⟨_, e⟩ => (by cases e)⟩
  | int i => exact ⟨false, kNt (by decide +kernel), fun h => (by cases h), fun ⟨_, e⟩ => (by cases e)⟩
  | str s => exact ⟨false, kSt (by decide +kernel), fun h => (by cases h), fun ⟨_, e⟩ => (by cases e)⟩
  | list xs => exact ⟨false, kLs (by decide +kernel), fun h => (by cases h), fun ⟨_, e⟩ => (by cases e)⟩
  | tuple xs => exact ⟨true, kTp (by decide +kernel), fun _ => ⟨_, rfl⟩, fun _ => rfl⟩
  | dict xs => exact absurd h.1 (by simp [PyData.canLay0])
theorem isi_lst {d : PyData} {j : Nat} (h : Sh d j) : ∃ b, kitB (tyn d) "list" = some b ∧ (b = true ↔ ∃ xs, d = .list xs) := by
  cases d with
  | none => exact ⟨false, (by decide +kernel : kitB "NoneType" "list" = some false), fun h => (by cases h), fun ⟨_, e⟩ => (by cases e)⟩
  | bool b => exact ⟨false, kBl (by decide +kernel), fun h => (by cases h), fun ⟨_, e⟩ => (by cases e)⟩
  | int i => exact ⟨false, kNt (by decide +kernel), fun h => (by cases h), fun ⟨_, e⟩ => (by cases e)⟩
  | str s => exact ⟨false, kSt (by decide +kernel), fun h => (by cases h), fun ⟨_, e⟩ => (by cases e)⟩
  | tuple xs => exact ⟨false, kTp (by decide +kernel), fun h => (by cases h), fun ⟨_, e⟩ => (by cases e)⟩
  | list xs => exact ⟨true, kLs (by decide +kernel), fun _ => ⟨_, rfl⟩, fun _ => rfl⟩
  | dict xs => exact absurd h.1 (by simp [PyData.canLay0])
theorem Sh.tup1 {xs : List PyData} {j : Nat} (h : Sh (.tuple xs) j) : (∀ d ∈ xs, Sh d j) ∧ xs.length ≤ 100000 := by
  obtain ⟨k, rfl, h1, h2⟩ := h.tupI
  exact ⟨fun d hd => (h1 d hd).mono (by omega), h2⟩
theorem Sh.lst1 {xs : List PyData} {j : Nat} (h : Sh (.list xs) j) : (∀ d ∈ xs, Sh d j) ∧ xs.length ≤ 100000 := by
  obtain ⟨k, rfl, h1, h2⟩ := h.lstI
  exact ⟨fun d hd => (h1 d hd).mono (by omega), h2⟩
theorem isBox_inv {d : PyData} {w : Nat} (h : isBox d (w : Int) = true) : ∃ lo hi : List Int, d = eBh lo hi ∧ lo.length = w ∧ hi.length = w ∧ leL lo hi = true := by
  cases d with
  | tuple xs =>
    match xs, h with
    | [l, r], h =>
      rw [isBox_eq, Bool.and_eq_true, Bool.and_eq_true] at h
      obtain ⟨lo, rfl, l1⟩ := isCol_inv h.1
      obtain ⟨hi, rfl, l2⟩ := isCol_inv h.2.1
      refine ⟨lo, hi, rfl, by omega, by omega, ?_⟩
      have := h.2.2
      rw [leD_eC] at this
      exact this
    | [], h => exact absurd h (by simp [isBox])
    | [_], h => exact absurd h (by simp [isBox])
    | _ :: _ :: _ :: _, h => exact absurd h (by simp [isBox])
  | _ => exact absurd h (by simp [isBox])
theorem isBox_of {lo hi : List Int} {w : Nat} (l1 : lo.length = w) (l2 : hi.length = w) (le : leL lo hi = true) : isBox (eBh lo hi) (w : Int) = true := by
  show (isCol (eC lo) _ && (isCol (eC hi) _ && leD (eC lo) (eC hi))) = true
  rw [isCol_eC, isCol_eC, leD_eC, decide_eq_true (by rw [l1]), decide_eq_true (by rw [l2]), le]
  rfl
theorem okd_is_box (T : Tx K mg) {k : Nat} : FnOk P w K mg base CX0 (k + 3) T.f_is_box T.d_is_box ["thing", "wide"] (spD fun ds n Kk => ∃ (d : PyData) (m : Int) (j : Nat), ds = [.d d, .d (.int m)] ∧ Sh d j ∧ j ≤ 60 ∧ m ≤ 1000 ∧ Kk (.bool (isBox d m)) n) := (ok_is_box T).imp fun vs H Q E h => by
  obtain ⟨L, B, ds, n, K', hv, hB, lb, lf, ⟨d, m, j, e, sh, j6, m1, k⟩, q⟩ := h
  subst e
  cases hv with
  | d h1 h2 => cases h2 with
    | d h2 h3 =>
      cases h3
      cases h2
      exact ⟨B, _, d, m, j, rfl, h1, sh, j6, m1, fun H' s => q _ _ _ _ k (Go.of s) (lf.same s) (.bl _)⟩
/-! ### alike, kind by kind, of anything -/
def isLD : PyData → Bool
  | .list _ => true
  | _ => false
def isTD : PyData → Bool
  | .tuple _ => true
  | _ => false
def isSD : PyData → Bool
  | .str _ => true
  | _ => false
def isID : PyData → Bool
  | .int _ => true
  | .bool _ => true
  | _ => false
def isBD : PyData → Bool
  | .bool _ => true
  | _ => false
theorem kinds {d : PyData} {j : Nat} (h : Sh d j) : kitB (tyn d) "list" = some (isLD d) ∧ kitB (tyn d) "tuple" = some (isTD d) ∧ kitB (tyn d) "str" = some (isSD d) ∧ kitB (tyn d) "int" = some (isID d) ∧ kitB (tyn d) "bool" = some (isBD d) := by
  cases d with
  | none => exact ⟨(by decide +kernel : kitB "NoneType" "list" = some false), (by decide +kernel : kitB "NoneType" "tuple" = some false), (by decide +kernel : kitB "NoneType" "str" = some false), (by decide +kernel : kitB "NoneType" "int" = some false), (by decide +kernel : kitB "NoneType" "bool" = some false)⟩
  | bool b => exact ⟨kBl (by decide +kernel : kitB "bool" "list" = some false), kBl (by decide +kernel : kitB "bool" "tuple" = some false), kBl (by decide +kernel : kitB "bool" "str" = some false), kBl (by decide +kernel : kitB "bool" "int" = some true), kBl (by decide +kernel : kitB "bool" "bool" = some true)⟩
  | int i => exact ⟨kNt (by decide +kernel : kitB "int" "list" = some false), kNt (by decide +kernel : kitB "int" "tuple" = some false), kNt (by decide +kernel : kitB "int" "str" = some false), kNt (by decide +kernel : kitB "int" "int" = some true), kNt (by decide +kernel : kitB "int" "bool" = some false)⟩
  | str s => exact ⟨kSt (by decide +kernel : kitB "str" "list" = some false), kSt (by decide +kernel : kitB "str" "tuple" = some false), kSt (by decide +kernel : kitB "str" "str" = some true), kSt (by decide +kernel : kitB "str" "int" = some false), kSt (by decide +kernel : kitB "str" "bool" = some false)⟩
  | list xs => exact ⟨kLs (by decide +kernel : kitB "list" "list" = some true), kLs (by decide +kernel : kitB "list" "tuple" = some false), kLs (by decide +kernel : kitB "list" "str" = some false), kLs (by decide +kernel : kitB "list" "int" = some false), kLs (by decide +kernel : kitB "list" "bool" = some false)⟩
  | tuple xs => exact ⟨kTp (by decide +kernel : kitB "tuple" "list" = some false), kTp (by decide +kernel : kitB "tuple" "tuple" = some true), kTp (by decide +kernel : kitB "tuple" "str" = some false), kTp (by decide +kernel : kitB "tuple" "int" = some false), kTp (by decide +kernel : kitB "tuple" "bool" = some false)⟩
  | dict xs => exact absurd h.1 (by simp [PyData.canLay0])
noncomputable def cdec (p : Prop) : Bool := @decide p (Classical.propDecidable p)
theorem cdec_iff {p : Prop} : cdec p = true ↔ p := @decide_eq_true_iff p (Classical.propDecidable p)
theorem cdec_of {p : Prop} {b : Bool} (h : b = true ↔ p) : b = cdec p := by
  cases hb : cdec p with
  | true => exact h.mpr (cdec_iff.mp hb)
  | false =>
    cases b with
    | false => rfl
    | true => rw [cdec_iff.mpr (h.mp rfl)] at hb; cases hb
theorem all_zip : ∀ {xs ys : List PyData}, xs.length = ys.length → (((xs.zip ys).map fun p => cdec (p.1 = p.2)).all id = true ↔ xs = ys)
  | [], [], _ => ⟨fun _ => rfl, fun _ => rfl⟩
  | [], _ :: _, h => by cases h
  | _ :: _, [], h => by cases h
  | x :: xs, y :: ys, h => by
    have ih := all_zip (xs := xs) (ys := ys) (by simpa using h)
    rw [List.zip_cons_cons, List.map_cons, List.all_cons, Bool.and_eq_true, ih]
    show cdec (x = y) = true ∧ _ ↔ _
    rw [cdec_iff]
    exact ⟨fun ⟨a, b⟩ => by rw [a, b], fun e => by injection e with a b; exact ⟨a, b⟩⟩
theorem eqv_none {x : PyData} : PyData.eqv x .none = true ↔ x = .none := by
  cases x <;> simp [PyData.eqv]
theorem eqv_str1 {x : PyData} {s : Str} : PyData.eqv x (.str s) = true ↔ x = .str s := by
  cases x <;> simp [PyData.eqv]
def rSameX (f : Nat) : List Sl → Nat → DQ → Prop := fun ds n K => ∃ x y : PyData, ds = [.d x, .d y] ∧ Sh x 60 ∧ Sh y f ∧ f ≤ 60 ∧ ∀ b : Bool, (b = true ↔ x = y) → K (.bool b) n
def rSameXS : Nat → List Sl → Nat → DQ → Prop
  | 0 => fun _ _ _ => False
  | f + 1 => rSameX f
set_option maxHeartbeats 1000000 in
theorem sameX_step (T : Tx K mg) {f k : Nat} (GS : FnOk P w K mg base CX0 k T.f_l_same T.d_l_same ["_law_found", "_law_due"] (spD (rSameXS f))) : FnOk P w K mg base CX0 (k + 1) T.f_l_same T.d_l_same ["_law_found", "_law_due"] (spD (rSameX f)) := by
  refine okD T.F_l_same sc_l_same _ (fun cdv A outer s H E hr => have hrS := hr; ⟨_, (pss_cons (ps_if (pt_val (pe_callB (call_isiTK K) (by rfl) T.z_isinstance (by decide +kernel) (pa_cons (pv 1) (pa_cons (pe_tup (pa_cons (pe_bltn (v := .ty "list") (by rfl) T.z_list (by decide +kernel) rfl) (pa_cons (pe_bltn (v := .ty "tuple") (by rfl) T.z_tuple (by decide +kernel) rfl) pa_nil))) pa_nil)))) (pss_cons (ps_if (PW.pt (pw_or (pt_cmpR op_ne (pe_callB (call_isiK1 K) (by rfl) T.z_isinstance (by decide +kernel) (pa_cons (pv 0) (pa_cons (pe_bltn (v := .ty "list") (by rfl) T.z_list (by decide +kernel) rfl) pa_nil))) (pe_callB (call_isiK1 K) (by rfl) T.z_isinstance (by decide +kernel) (pa_cons (pv 1) (pa_cons (pe_bltn (v := .ty "list") (by rfl) T.z_list (by decide +kernel) rfl) pa_nil))) (nomark _)) (pw_or1 (pt_cmpR op_ne (pe_callB (call_isiK1 K) (by rfl) T.z_isinstance (by decide +kernel) (pa_cons (pv 0) (pa_cons (pe_bltn (v := .ty "tuple") (by rfl) T.z_tuple (by decide +kernel) rfl) pa_nil))) (pe_callB (call_isiK1 K) (by rfl) T.z_isinstance (by decide +kernel) (pa_cons (pv 1) (pa_cons (pe_bltn (v := .ty "tuple") (by rfl) T.z_tuple (by decide +kernel) rfl) pa_nil))) (nomark _))))) (pss_one (ps_ret pe_bl)) pss_nil)
      (pss_one (ps_ret (pe_and (pe_cmpR op_eq (pe_callB (len_K K) (by rfl) T.z_len PySem.boot_len (pa_cons (pv 0) pa_nil)) (pe_callB (len_K K) (by rfl) T.z_len PySem.boot_len (pa_cons (pv 1) pa_nil)) (nomark _)) (pe_one (pe_callB (cr_allK K rfl) (by rfl) T.z_all (by decide +kernel) (pa_cons (pe_lc (own := [("_law_one", 2), ("_law_other", 3)]) (by rfl) sc_l_same.nd (RZ.pi_zipA (by rfl) T.z_zip (pa_cons (pv 0) (pa_cons (pv 1) pa_nil))) (blkOk_by (own := [("_law_one", 2), ("_law_other", 3)]) (N := N_l_same) (sc := defScope s_l_same) (by decide +kernel)) (fun _ _ _ _ _ => (pg_tupK K (n := 2) rfl (pgs_cons (pg_name (i := 2) sc_l_same.nd rfl (.inl rfl)) (pgs_cons (pg_name (i := 3) sc_l_same.nd rfl (.inl rfl)) pgs_nil)))) (fun _ _ _ _ _ => pts_nil) (fun _ _ _ _ _ => (pe_call GS hrS (by rfl) T.g_l_same T.F_l_same.kp T.b_l_same .nil pass0 (pa_cons (pv 2) (pa_cons (pv 3) pa_nil))))) pa_nil))))))) pss_nil)
      (pss_cons (ps_if (PW.pt (pw_or (pt_cmpR op_isN (pv 1) pe_non (nomark _)) (pw_or1 (pt_val (pe_callB (call_isiK1 K) (by rfl) T.z_isinstance (by decide +kernel) (pa_cons (pv 1) (pa_cons (pe_bltn (v := .ty "str") (by rfl) T.z_str (by decide +kernel) rfl) pa_nil))))))) (pss_one (ps_ret (pe_and (pe_cmpR (op_eqDK K hr.units) (pv 0) (pv 1) (nomark _)) (pe_one (pe_cmpR op_eq (pe_callB (call_isiK1 K) (by rfl) T.z_isinstance (by decide +kernel) (pa_cons (pv 0) (pa_cons (pe_bltn (v := .ty "str") (by rfl) T.z_str (by decide +kernel) rfl) pa_nil))) (pe_callB (call_isiK1 K) (by rfl) T.z_isinstance (by decide +kernel) (pa_cons (pv 1) (pa_cons (pe_bltn (v := .ty "str") (by rfl) T.z_str (by decide +kernel) rfl) pa_nil))) (nomark _)))))) pss_nil)
      (pss_cons (ps_if (pt_val (pe_callB (call_isiK1 K) (by rfl) T.z_isinstance (by decide +kernel) (pa_cons (pv 1) (pa_cons (pe_bltn (v := .ty "bool") (by rfl) T.z_bool (by decide +kernel) rfl) pa_nil)))) (pss_one (ps_ret (pe_and (pe_callB (call_isiK1 K) (by rfl) T.z_isinstance (by decide +kernel) (pa_cons (pv 0) (pa_cons (pe_bltn (v := .ty "bool") (by rfl) T.z_bool (by decide +kernel) rfl) pa_nil))) (pe_one (pe_cmpR (op_eqDK K hr.units) (pv 0) (pv 1) (nomark _)))))) pss_nil)
      (pss_one (ps_ret (pe_and (pe_callB (call_isiK1 K) (by rfl) T.z_isinstance (by decide +kernel) (pa_cons (pv 0) (pa_cons (pe_bltn (v := .ty "int") (by rfl) T.z_int (by decide +kernel) rfl) pa_nil))) (pe_and (pe_not (pe_callB (call_isiK1 K) (by rfl) T.z_isinstance (by decide +kernel) (pa_cons (pv 0) (pa_cons (pe_bltn (v := .ty "bool") (by rfl) T.z_bool (by decide +kernel) rfl) pa_nil)))) (pe_one (pe_cmpR (op_eqDK K hr.units) (pv 0) (pv 1) (nomark _)))))))))),
      (ss_seq (ss_if (st_B (se_isiT (sv 1))) (ss_seq (ss_if (st_or (st_test (se_op sr_neB (se_isi (sv 0)) (se_isi (sv 1)))) (st_test (se_op sr_neB (se_isi (sv 0)) (se_isi (sv 1))))) (ss_ret se_bl) ss_next)
      (ss_ret (se_and (se_op sr_eqI (se_cb sc_len (sa_cons (sv 0) sa_nil)) (se_cb sc_len (sa_cons (sv 1) sa_nil))) (se_cb sc_all (sa_cons (SN.se (sn_lc (si_zip (sa_cons (sv 0) (sa_cons (sv 1) sa_nil))) (sg_tup (sgs_cons sg_name (sgs_cons sg_name sgs_nil))) st_yesD (se_call (sa_cons (sv 2) (sa_cons (sv 3) sa_nil))) (by decide))) sa_nil))))) ss_next)
      (ss_seq (ss_if (st_or (st_test (se_op sr_isN (sv 1) se_non)) (st_B (se_isi (sv 1)))) (ss_ret (se_and (se_op sr_eqD (sv 0) (sv 1)) (se_op sr_eqB (se_isi (sv 0)) (se_isi (sv 1))))) ss_next)
      (ss_seq (ss_if (st_B (se_isi (sv 1))) (ss_ret (se_and (se_isi (sv 0)) (se_op sr_eqD (sv 0) (sv 1)))) ss_next)
      (ss_ret (se_and (se_isi (sv 0)) (se_and (se_not (se_isi (sv 0))) (se_op sr_eqD (sv 0) (sv 1))))))))⟩) (fun ds n Q ⟨_, _, e, _⟩ => by rw [e]; rfl) fun ds n Q ⟨x, y, e, sx, sy, f6, q⟩ => ?_
  subst e
  obtain ⟨x1, x2, x3, x4, x5⟩ := kinds sx
  obtain ⟨y1, y2, y3, y4, y5⟩ := kinds sy
  have fx := sx.sh (by decide)
  have fy := sy.sh (by omega)
  have no : x ≠ y → Q (.bool false) n := fun h => q false ⟨fun z => (by cases z), fun z => absurd z h⟩
  have seq : ∀ {xs ys : List PyData} {c : Bool}, (x = y ↔ xs = ys) → xs.length = ys.length → (c = ((xs.zip ys).map fun p => cdec (p.1 = p.2)).all id) → Q (.bool c) n := fun h l e => q _ (by rw [e, h]; exact all_zip l)
  refine ⟨_, rfl, _, _, y1, y2, _, rfl, ?_⟩
  cases y with
  | list ys =>
    refine iteT ⟨_, rfl, _, x1, _, rfl, _, y1, _, _, rfl, rfl, _, rfl, ite2 (fun e => ?_) (fun e => ?_)⟩
    · refine no fun h => ?_
      rw [h] at e
      simp at e
    obtain ⟨xs, rfl⟩ : ∃ xs, x = .list xs := by
      cases x <;> first | exact ⟨_, rfl⟩ | exact absurd rfl e
    refine ⟨_, rfl, _, x2, _, rfl, _, y2, _, _, rfl, rfl, _, rfl, iteF ?_⟩
    obtain ⟨jx, ej, hx, lx⟩ := sx.lstI
    obtain ⟨jy, ejy, hy, ly⟩ := sy.lstI
    subst ejy
    refine ⟨_, rfl, _, rfl, _, .inl rfl, _, rfl, _, rfl, _, .inl rfl, _, _, rfl, rfl, _, rfl, ite2 (fun h => ?_) (fun h => no fun e => h (by injection e with e; rw [e]; exact decide_eq_true rfl))⟩
    have ll : xs.length = ys.length := by have := of_decide_eq_true h; omega
    refine ⟨_, rfl, _, rfl, _, _, .inl rfl, lcD (by rw [zpD_len]; omega) (fun i => ((xs.zip ys)[i]?).map fun p => .bool (cdec (p.1 = p.2))) (fun i d Ky Kn ed ky kn => ?_) ?_⟩
    · have hi := (List.getElem?_eq_some_iff.mp ed).1
      rw [zpD_len] at hi
      have ex := List.getElem?_eq_getElem (l := xs) (i := i) (by omega)
      have ey := List.getElem?_eq_getElem (l := ys) (i := i) (by omega)
      rw [zpD_get hi ex ey] at ed
      cases ed
      refine ⟨_, rfl, rfl, _, _, rfl, _, _, rfl, rfl, _, rfl, _, rfl, _, _, rfl, (hx _ (List.getElem_mem _)).mono (by omega), hy _ (List.getElem_mem _), by omega, fun b hb => ?_⟩
      exact ky _ (by rw [(List.getElem?_zip_eq_some (z := (xs[i], ys[i]))).mpr ⟨ex, ey⟩, cdec_of hb]; rfl)
    · rw [zpD_len, ← List.length_zip, fmM]
      refine ⟨_, rfl, (xs.zip ys).map fun p => cdec (p.1 = p.2), by rw [List.map_map]; rfl, ?_⟩
      exact seq ⟨fun e => by injection e, fun e => by rw [e]⟩ ll rfl
  | tuple ys =>
    refine iteT ⟨_, rfl, _, x1, _, rfl, _, y1, _, _, rfl, rfl, _, rfl, ite2 (fun e => ?_) (fun e => ?_)⟩
    · refine no fun h => ?_
      rw [h] at e
      simp at e
    refine ⟨_, rfl, _, x2, _, rfl, _, y2, _, _, rfl, rfl, _, rfl, ite2 (fun e => ?_) (fun e => ?_)⟩
    · refine no fun h => ?_
      rw [h] at e
      simp at e
    obtain ⟨xs, rfl⟩ : ∃ xs, x = .tuple xs := by
      cases x <;> first | exact ⟨_, rfl⟩ | exact absurd rfl e
    obtain ⟨jx, ej, hx, lx⟩ := sx.tupI
    obtain ⟨jy, ejy, hy, ly⟩ := sy.tupI
    subst ejy
    refine ⟨_, rfl, _, rfl, _, .inr rfl, _, rfl, _, rfl, _, .inr rfl, _, _, rfl, rfl, _, rfl, ite2 (fun h => ?_) (fun h => no fun e => h (by injection e with e; rw [e]; exact decide_eq_true rfl))⟩
    have ll : xs.length = ys.length := by have := of_decide_eq_true h; omega
    refine ⟨_, rfl, _, rfl, _, _, .inr rfl, lcD (by rw [zpD_len]; omega) (fun i => ((xs.zip ys)[i]?).map fun p => .bool (cdec (p.1 = p.2))) (fun i d Ky Kn ed ky kn => ?_) ?_⟩
    · have hi := (List.getElem?_eq_some_iff.mp ed).1
      rw [zpD_len] at hi
      have ex := List.getElem?_eq_getElem (l := xs) (i := i) (by omega)
      have ey := List.getElem?_eq_getElem (l := ys) (i := i) (by omega)
      rw [zpD_get hi ex ey] at ed
      cases ed
      refine ⟨_, rfl, rfl, _, _, rfl, _, _, rfl, rfl, _, rfl, _, rfl, _, _, rfl, (hx _ (List.getElem_mem _)).mono (by omega), hy _ (List.getElem_mem _), by omega, fun b hb => ?_⟩
      exact ky _ (by rw [(List.getElem?_zip_eq_some (z := (xs[i], ys[i]))).mpr ⟨ex, ey⟩, cdec_of hb]; rfl)
    · rw [zpD_len, ← List.length_zip, fmM]
      refine ⟨_, rfl, (xs.zip ys).map fun p => cdec (p.1 = p.2), by rw [List.map_map]; rfl, ?_⟩
      exact seq ⟨fun e => by injection e, fun e => by rw [e]⟩ ll rfl
  | none =>
    refine iteF ⟨_, rfl, rfl, _, rfl, iteT ⟨_, rfl, _, rfl, fx, fy, _, rfl, ite2 (fun h => ?_) (fun h => no fun e => h (eqv_none.mpr e))⟩⟩
    have e := eqv_none.mp h
    subst e
    exact ⟨_, rfl, _, x3, _, rfl, _, y3, _, _, rfl, rfl, q _ ⟨fun _ => rfl, fun _ => by simp⟩⟩
  | str u =>
    refine iteF ⟨_, rfl, rfl, _, rfl, iteF ⟨_, rfl, _, y3, _, rfl, iteT ⟨_, rfl, _, rfl, fx, fy, _, rfl, ite2 (fun h => ?_) (fun h => no fun e => h (eqv_str1.mpr e))⟩⟩⟩
    have e := eqv_str1.mp h
    subst e
    exact ⟨_, rfl, _, x3, _, rfl, _, y3, _, _, rfl, rfl, q _ ⟨fun _ => rfl, fun _ => by simp⟩⟩
  | bool c =>
    refine iteF ⟨_, rfl, rfl, _, rfl, iteF ⟨_, rfl, _, y3, _, rfl, iteF ⟨_, rfl, _, y5, _, rfl, iteT ⟨_, rfl, _, x5, _, rfl, ite2 (fun h => ?_) (fun h => no fun e => h (by rw [e]; rfl))⟩⟩⟩⟩
    obtain ⟨z, rfl⟩ : ∃ z, x = .bool z := by
      cases x <;> first | exact ⟨_, rfl⟩ | exact absurd h (by simp [isBD])
    refine ⟨_, rfl, _, rfl, fx, fy, q _ ?_⟩
    cases z <;> cases c <;> simp [PyData.eqv]
  | int c =>
    refine iteF ⟨_, rfl, rfl, _, rfl, iteF ⟨_, rfl, _, y3, _, rfl, iteF ⟨_, rfl, _, y5, _, rfl, iteF ⟨_, rfl, _, x4, _, rfl, ite2 (fun h => ?_) (fun h => no fun e => h (by rw [e]; rfl))⟩⟩⟩⟩
    refine ⟨_, rfl, _, x5, _, rfl, _, rfl, ?_⟩
    cases x with
    | int z =>
      refine iteT ⟨_, rfl, _, rfl, fx, fy, q _ ?_⟩
      simp [PyData.eqv]
    | bool z => exact iteF (no fun e => (by cases e))
    | _ => exact absurd h (by simp [isID])
  | dict kv => exact absurd sy.1 (by simp [PyData.canLay0])
theorem sameX_all (T : Tx K mg) {k : Nat} : ∀ f : Nat, FnOk P w K mg base CX0 (k + 1 + f) T.f_l_same T.d_l_same ["_law_found", "_law_due"] (spD (rSameX f))
  | 0 => sameX_step T (f := 0) FnOk.no
  | f + 1 => by
    have h2 := sameX_step T (f := f + 1) (k := k + 1 + f) (sameX_all T (k := k) f)
    have e : k + 1 + f + 1 = k + 1 + (f + 1) := by omega
    rw [e] at h2
    exact h2
inductive Tam : Nat → PyData → Prop
  | none {k : Nat} : Tam k .none
  | bool {k : Nat} (b : Bool) : Tam k (.bool b)
  | int {k : Nat} {i : Int} (h1 : -1000000 ≤ i) (h2 : i ≤ 1000000) : Tam k (.int i)
  | str {k : Nat} {s : Str} (h : Sh (.str s) 0) : Tam k (.str s)
  | list {k : Nat} {xs : List PyData} (l : xs.length ≤ 100) (h : ∀ d ∈ xs, Tam k d) : Tam (k + 1) (.list xs)
  | tuple {k : Nat} {xs : List PyData} (l : xs.length ≤ 100) (h : ∀ d ∈ xs, Tam k d) : Tam (k + 1) (.tuple xs)
theorem Tam.sh {k : Nat} {d : PyData} (h : Tam k d) : Sh d k := by
  induction h with
  | none => exact sh_none _
  | bool b => exact sh_bool b _
  | int _ _ => exact sh_int _ _
  | str h => exact h.mono (Nat.zero_le _)
  | list l _ ih => exact sh_lst (by omega) ih
  | tuple l _ ih => exact sh_tup (by omega) ih
theorem Tam.tup {k : Nat} {xs : List PyData} (h : Tam k (.tuple xs)) : xs.length ≤ 100 ∧ ∀ d ∈ xs, Tam k d := by
  have mono : ∀ {k : Nat} {d : PyData}, Tam k d → Tam (k + 1) d := fun h => by
    induction h with
    | none => exact .none
    | bool b => exact .bool b
    | int h1 h2 => exact .int h1 h2
    | str h => exact .str h
    | list l _ ih => exact .list l ih
    | tuple l _ ih => exact .tuple l ih
  cases h with
  | tuple l h => exact ⟨l, fun d hd => mono (h d hd)⟩
theorem Tam.up {k : Nat} {d : PyData} (h : Tam k d) : ∀ {j : Nat}, k ≤ j → Tam j d := by
  induction h with
  | none => exact fun _ => .none
  | bool b => exact fun _ => .bool b
  | int h1 h2 => exact fun _ => .int h1 h2
  | str h => exact fun _ => .str h
  | list l _ ih =>
    intro j hj
    obtain ⟨i, rfl⟩ : ∃ i, j = i + 1 := ⟨j - 1, by omega⟩
    exact .list l fun d hd => ih d hd (by omega)
  | tuple l _ ih =>
    intro j hj
    obtain ⟨i, rfl⟩ : ∃ i, j = i + 1 := ⟨j - 1, by omega⟩
    exact .tuple l fun d hd => ih d hd (by omega)
theorem Tam.lst {k : Nat} {xs : List PyData} (h : Tam k (.list xs)) : xs.length ≤ 100 ∧ ∀ d ∈ xs, Tam k d := by
  cases h with
  | list l h => exact ⟨l, fun d hd => (h d hd).up (by omega)⟩
theorem Tam.cin {k : Nat} {ns : List Int} (h : Tam k (eC ns)) : ns.length ≤ 100 ∧ cIn (-1000000) 1000000 ns := by
  obtain ⟨l, h⟩ := h.tup
  refine ⟨by simpa using l, fun x hx => ?_⟩
  cases h _ (List.mem_map_of_mem hx) with
  | int h1 h2 => exact ⟨h1, h2⟩
theorem Tam.lin {k : Nat} {ns : List Int} (h : Tam k (eI ns)) : ns.length ≤ 100 := by simpa using h.lst.1
theorem eC_one {a b : List Int} (h : eC a = eC b) : a = b := by
  injection h with h
  exact ints_one h
/-! ### right trees -/
theorem eBh_one {a b c d : List Int} (h : eBh a b = eBh c d) : a = c ∧ b = d := by
  injection h with h
  injection h with h1 h2
  injection h2 with h2 _
  exact ⟨eC_one h1, eC_one h2⟩
theorem eT_one : ∀ {t u : Tr}, eT t = eT u → t = u
  | .leaf lo hi ns, .leaf lo' hi' ns', h => by
    injection h with h
    injection h with _ h
    injection h with h1 h
    injection h with h2 _
    obtain ⟨rfl, rfl⟩ := eBh_one h1
    rw [eC_one h2]
  | .node lo hi a b, .node lo' hi' a' b', h => by
    injection h with h
    injection h with _ h
    injection h with h1 h
    injection h with h2 h
    injection h with h3 _
    obtain ⟨rfl, rfl⟩ := eBh_one h1
    rw [eT_one h2, eT_one h3]
  | .leaf _ _ _, .node _ _ _ _, h => by
    injection h with h
    injection h with _ h
    injection h with _ h
    injection h with _ h
    cases h
  | .node _ _ _ _, .leaf _ _ _, h => by
    injection h with h
    injection h with _ h
    injection h with _ h
    injection h with _ h
    cases h
def BxL (cs : List (List Int)) (wd : Nat) (ns : List Int) : PyData := eBh (boxLo (colsAt cs ns) wd) (boxHi (colsAt cs ns) wd)
inductive RT (cs : List (List Int)) (wd : Nat) (mo : Int) : Tr → Prop
  | leaf {lo hi ns : List Int} : 0 < ns.length → ((ns.length : Nat) : Int) ≤ mo → ns.Pairwise (· < ·) → (∀ n ∈ ns, 0 ≤ n ∧ n < (cs.length : Int)) → eBh lo hi = BxL cs wd ns → RT cs wd mo (.leaf lo hi ns)
  | node {lo hi : List Int} {a b : Tr} : RT cs wd mo a → RT cs wd mo b → a.nums.length ≤ b.nums.length + 1 → b.nums.length ≤ a.nums.length + 1 → (a.nums ++ b.nums).Nodup → eBh lo hi = BxL cs wd (a.nums ++ b.nums) → RT cs wd mo (.node lo hi a b)
theorem RT.pos {cs : List (List Int)} {wd : Nat} {mo : Int} {t : Tr} (h : RT cs wd mo t) : 0 < t.nums.length := by
  induction h with
  | leaf h _ _ _ _ => exact h
  | node _ _ _ _ _ _ ih _ => show 0 < (_ ++ _ : List Int).length; rw [List.length_append]; omega
theorem RT.inn {cs : List (List Int)} {wd : Nat} {mo : Int} {t : Tr} (h : RT cs wd mo t) : ∀ n ∈ t.nums, 0 ≤ n ∧ n < (cs.length : Int) := by
  induction h with
  | leaf _ _ _ h _ => exact h
  | node _ _ _ _ _ _ ih1 ih2 =>
    intro n hn
    rcases List.mem_append.mp hn with q | q
    · exact ih1 n q
    · exact ih2 n q
theorem RT.nd {cs : List (List Int)} {wd : Nat} {mo : Int} {t : Tr} (h : RT cs wd mo t) : t.nums.Nodup := by
  cases h with
  | leaf _ _ h _ _ => exact h.imp fun h => by omega
  | node _ _ _ _ h _ => exact h
theorem nd_le {m : Nat} {ns : List Int} (nd : ns.Nodup) (h : ∀ n ∈ ns, 0 ≤ n ∧ n < (m : Int)) : ns.length ≤ m := by
  have := List.Nodup.length_le_of_subset nd fun x hx => mem_allN.mpr (h x hx)
  rwa [allN_length] at this
theorem RT.le {cs : List (List Int)} {wd : Nat} {mo : Int} {t : Tr} (h : RT cs wd mo t) : t.nums.length ≤ cs.length := nd_le h.nd h.inn
theorem BxL_perm {cs : List (List Int)} {wd : Nat} {ns ms : List Int} (h : ns.Perm ms) (h0 : 0 < ns.length) : BxL cs wd ns = BxL cs wd ms := by
  unfold BxL
  have hp : (colsAt cs ns).Perm (colsAt cs ms) := h.map _
  have h1 : 0 < (colsAt cs ns).length := by unfold colsAt; rw [List.length_map]; exact h0
  rw [boxLo_same h1 fun c => hp.mem_iff, boxHi_same h1 fun c => hp.mem_iff]
theorem leaf_nums {w bx : PyData} {rest : List PyData} {lo hi ns : List Int} (h : PyData.tuple (w :: bx :: rest) = eT (.leaf lo hi ns)) : w = .str "leaf" ∧ bx = eBh lo hi ∧ rest = [eC ns] := by
  injection h with h
  injection h with h1 h
  injection h with h2 h
  exact ⟨h1, h2, h⟩
theorem node_parts {w bx : PyData} {rest : List PyData} {lo hi : List Int} {a b : Tr} (h : PyData.tuple (w :: bx :: rest) = eT (.node lo hi a b)) : w = .str "node" ∧ bx = eBh lo hi ∧ rest = [eT a, eT b] := by
  injection h with h
  injection h with h1 h
  injection h with h2 h
  exact ⟨h1, h2, h⟩
theorem leaf_ne_node : (PyData.str "leaf") ≠ .str "node" := fun h => by
  injection h with h
  exact absurd h (by decide +kernel)
/-- what a checker finds in a node: its numbers, or none -/
def NoT (cs : List (List Int)) (wd : Nat) (mo : Int) (d : PyData) : Prop := ∀ t, d = eT t → ¬ RT cs wd mo t
/-- found: all is right but perhaps the box -/
def Fnd (cs : List (List Int)) (wd : Nat) (mo : Int) (d : PyData) (ms : List Int) : Prop := ∃ (w bx : PyData) (rest : List PyData), d = .tuple (w :: bx :: rest) ∧ 0 < ms.length ∧ ms.Nodup ∧ (∀ n ∈ ms, 0 ≤ n ∧ n < (cs.length : Int)) ∧ (bx = BxL cs wd ms → ∃ t, d = eT t ∧ RT cs wd mo t ∧ ms.Perm t.nums) ∧ (bx ≠ BxL cs wd ms → NoT cs wd mo d)
def LfP (cs : List (List Int)) (mo : Int) (d : PyData) (ns : List Int) : Prop := d = eC ns ∧ 0 < ns.length ∧ ((ns.length : Nat) : Int) ≤ mo ∧ ns.Pairwise (· < ·) ∧ ∀ n ∈ ns, 0 ≤ n ∧ n < (cs.length : Int)
theorem Fnd.leaf {cs : List (List Int)} {wd : Nat} {mo : Int} {bx x : PyData} {ns : List Int} (h : LfP cs mo x ns) : Fnd cs wd mo (.tuple [.str "leaf", bx, x]) ns := by
  obtain ⟨rfl, n0, n1, np, ni⟩ := h
  refine ⟨_, _, _, rfl, n0, np.imp fun h => by omega, ni, fun e => ?_, fun e t et ht => ?_⟩
  · exact ⟨.leaf (boxLo (colsAt cs ns) wd) (boxHi (colsAt cs ns) wd) ns, by rw [e]; rfl, .leaf n0 n1 np ni rfl, .refl _⟩
  · cases ht with
    | leaf _ _ _ _ hb =>
      obtain ⟨_, h2, h3⟩ := leaf_nums et
      injection h3 with h3 _
      rw [← eC_one h3] at hb
      exact e (h2.trans hb)
    | node _ _ _ _ _ _ => exact leaf_ne_node (node_parts et).1
theorem NoT.leaf {cs : List (List Int)} {wd : Nat} {mo : Int} {bx x : PyData} (h : ∀ ns, ¬ LfP cs mo x ns) : NoT cs wd mo (.tuple [.str "leaf", bx, x]) := fun t et ht => by
  cases ht with
  | leaf n0 n1 np ni _ =>
    obtain ⟨_, _, h3⟩ := leaf_nums et
    injection h3 with h3 _
    exact h _ ⟨h3, n0, n1, np, ni⟩
  | node _ _ _ _ _ _ => exact leaf_ne_node (node_parts et).1
def HvP (cs : List (List Int)) (wd : Nat) (mo : Int) (x y : PyData) (a b : Tr) : Prop := x = eT a ∧ y = eT b ∧ RT cs wd mo a ∧ RT cs wd mo b ∧ a.nums.length ≤ b.nums.length + 1 ∧ b.nums.length ≤ a.nums.length + 1 ∧ (a.nums ++ b.nums).Nodup
theorem Fnd.node {cs : List (List Int)} {wd : Nat} {mo : Int} {bx x y : PyData} {a b : Tr} {ms : List Int} (h : HvP cs wd mo x y a b) (p : ms.Perm (a.nums ++ b.nums)) : Fnd cs wd mo (.tuple [.str "node", bx, x, y]) ms := by
  obtain ⟨rfl, rfl, ha, hb, h1, h2, nd⟩ := h
  have pa := ha.pos
  have p0 : 0 < ms.length := by rw [p.length_eq, List.length_append]; omega
  refine ⟨_, _, _, rfl, p0, p.nodup_iff.mpr nd, fun n hn => ?_, fun e => ?_, fun e t et ht => ?_⟩
  · rcases List.mem_append.mp (p.mem_iff.mp hn) with q | q
    · exact ha.inn n q
    · exact hb.inn n q
  · rw [BxL_perm p p0] at e
    exact ⟨.node (boxLo (colsAt cs (a.nums ++ b.nums)) wd) (boxHi (colsAt cs (a.nums ++ b.nums)) wd) a b, by rw [e]; rfl, .node ha hb h1 h2 nd rfl, p⟩
  · cases ht with
    | leaf _ _ _ _ _ => exact leaf_ne_node (leaf_nums et).1.symm
    | node _ _ _ _ _ hx =>
      obtain ⟨_, g2, g3⟩ := node_parts et
      injection g3 with g3 g4
      injection g4 with g4 _
      rw [← eT_one g3, ← eT_one g4, ← BxL_perm p p0] at hx
      exact e (g2.trans hx)
theorem NoT.node {cs : List (List Int)} {wd : Nat} {mo : Int} {bx x y : PyData} (h : ∀ a b, ¬ HvP cs wd mo x y a b) : NoT cs wd mo (.tuple [.str "node", bx, x, y]) := fun t et ht => by
  cases ht with
  | leaf _ _ _ _ _ => exact leaf_ne_node (leaf_nums et).1.symm
  | node ha hb h1 h2 h3 _ =>
    obtain ⟨_, g2, g3⟩ := node_parts et
    injection g3 with g3 g4
    injection g4 with g4 _
    exact h _ _ ⟨g3, g4, ha, hb, h1, h2, h3⟩
theorem NoT.len {cs : List (List Int)} {wd : Nat} {mo : Int} {xs : List PyData} (h3 : xs.length ≠ 3) (h4 : xs.length ≠ 4) : NoT cs wd mo (.tuple xs) := fun t et _ => by
  cases t with
  | leaf lo hi ns => injection et with e; rw [e] at h3; exact h3 rfl
  | node lo hi a b => injection et with e; rw [e] at h4; exact h4 rfl
theorem NoT.three {cs : List (List Int)} {wd : Nat} {mo : Int} {w x y : PyData} (h : w ≠ .str "leaf") : NoT cs wd mo (.tuple [w, x, y]) := fun t et _ => by
  cases t with
  | leaf lo hi ns => exact h (leaf_nums et).1
  | node lo hi a b => obtain ⟨_, _, g⟩ := node_parts et; cases g
theorem NoT.four {cs : List (List Int)} {wd : Nat} {mo : Int} {w x y z : PyData} (h : w ≠ .str "node") : NoT cs wd mo (.tuple [w, x, y, z]) := fun t et _ => by
  cases t with
  | leaf lo hi ns => obtain ⟨_, _, g⟩ := leaf_nums et; cases g
  | node lo hi a b => exact h (node_parts et).1
theorem NoT.other {cs : List (List Int)} {wd : Nat} {mo : Int} {d : PyData} (h : ¬ ∃ xs, d = .tuple xs) : NoT cs wd mo d := fun t et _ => by
  cases t with
  | leaf lo hi ns => exact h ⟨_, et⟩
  | node lo hi a b => exact h ⟨_, et⟩
def NW (cs : List (List Int)) (wd : Nat) (mo : Int) (d : PyData) (ms : List Int) : Prop := (∃ t, d = eT t ∧ RT cs wd mo t ∧ ms.Perm t.nums) ∨ (ms = [] ∧ NoT cs wd mo d)
theorem NW.len {cs : List (List Int)} {wd : Nat} {mo : Int} {d : PyData} {ms : List Int} (h : NW cs wd mo d ms) : ms.length ≤ cs.length := by
  rcases h with ⟨t, _, h, p⟩ | ⟨rfl, _⟩
  · rw [p.length_eq]; exact h.le
  · exact Nat.zero_le _
theorem NW.nil {cs : List (List Int)} {wd : Nat} {mo : Int} {d : PyData} (h : NW cs wd mo d []) : NoT cs wd mo d := by
  rcases h with ⟨t, _, h, p⟩ | ⟨_, h⟩
  · have := p.length_eq; have := h.pos; simp at *; omega
  · exact h
theorem NW.ne {cs : List (List Int)} {wd : Nat} {mo : Int} {d : PyData} {ms : List Int} (h : NW cs wd mo d ms) (n : ms ≠ []) : ∃ t, d = eT t ∧ RT cs wd mo t ∧ ms.Perm t.nums := by
  rcases h with h | ⟨h, _⟩
  · exact h
  · exact absurd h n
/-- what the two checkers say: whether a thing is a right tree of all numbers -/
def IsT (cs : List (List Int)) (wd : Nat) (mo : Int) (d : PyData) : Prop := ∃ t, d = eT t ∧ RT cs wd mo t ∧ t.nums.Perm (allN cs.length)
/-! ### the program's checker of trees, of anything -/
theorem boxL_ok {cs : List (List Int)} {wd : Nat} {ns : List Int} (h0 : 0 < ns.length) : (boxLo (colsAt cs ns) wd).length = wd ∧ (boxHi (colsAt cs ns) wd).length = wd ∧ leL (boxLo (colsAt cs ns) wd) (boxHi (colsAt cs ns) wd) = true := by
  have h1 : 0 < (colsAt cs ns).length := by unfold colsAt; rw [List.length_map]; exact h0
  refine ⟨boxLo_len .., boxHi_len .., ?_⟩
  refine (leL_iff (by rw [boxLo_len, boxHi_len])).mpr fun i x y hx hy => ?_
  have hi' := (List.getElem?_eq_some_iff.mp hx).1
  rw [boxLo_len] at hi'
  have := lo_le_hi (wd := wd) (p := i) h1 (by omega)
  rw [List.getD_eq_getElem?_getD, List.getD_eq_getElem?_getD, hx, hy] at this
  exact this
theorem eqv_eBh (a b c d : List Int) : PyData.eqv (eBh a b) (eBh c d) = decide (a = c ∧ b = d) := by
  show PyData.eqvAll [eC a, eC b] [eC c, eC d] = _
  show (PyData.eqv (eC a) (eC c) && (PyData.eqv (eC b) (eC d) && true)) = _
  rw [eqv_eC, eqv_eC, Bool.and_true, Bool.decide_and]
def rJustX : List Sl → Nat → DQ → Prop := fun ds n K => ∃ (cs : List (List Int)) (d : PyData) (ns : List Int) (wd : Nat), ds = [.d (eP cs), .d d, .d (eI ns)] ∧ cs.length ≤ 1000 ∧ 0 < wd ∧ wd ≤ 10 ∧ (∀ x ∈ cs, x.length = wd ∧ cIn 0 999 x) ∧ 0 < ns.length ∧ ns.length ≤ 1000 ∧ (∀ x ∈ ns, 0 ≤ x ∧ x < (cs.length : Int)) ∧ Sh d 60 ∧ ∀ b : Bool, (b = true ↔ d = BxL cs wd ns) → K (.bool b) n
theorem okd_is_just_box (T : Tx K mg) {k : Nat} : FnOk P w K mg base CX0 (k + 4) T.f_is_just_box T.d_is_just_box ["palette", "box", "numbers"] (spD rJustX) := by
  refine okD T.F_is_just_box sc_is_just_box _ (fun cdv A outer s H E hr => ⟨_, (pss_one (ps_ret (pe_and (pe_call (okd_is_box T (k := k)) hr (by rfl) T.g_is_box T.F_is_box.kp T.b_is_box .nil pass0 (pa_cons (pv 1) (pa_cons (pe_callB (len_K K) (by rfl) T.z_len PySem.boot_len (pa_cons (pe_ix (ix_listK K) (pv 0) pe_int (fun _ _ => rfl)) pa_nil)) pa_nil))) (pe_one (pe_cmpR (op_eqDK K hr.units) (pv 1) (pe_call (okd_box_of T (k := k + 1)) hr (by rfl) T.g_box_of T.F_box_of.kp T.b_box_of .nil pass0 (pa_cons (pe_lc (own := [("number", 3)]) (by rfl) sc_is_just_box.nd (pi_listK K (pv 2)) (blkOk_by (own := [("number", 3)]) (N := N_is_just_box) (sc := defScope s_is_just_box) (by decide +kernel)) (fun _ _ _ _ _ => (pg_name (i := 3) sc_is_just_box.nd rfl (.inl rfl))) (fun _ _ _ _ _ => pts_nil) (fun _ _ _ _ _ => (pe_ix (ix_listK K) (pv 0) (pv 3) (fun _ _ => rfl)))) pa_nil)) (nomark _)))))),
      (ss_ret (se_and (se_call (sa_cons (sv 1) (sa_cons (se_cb sc_len (sa_cons (se_op sr_ixL (sv 0) se_int) sa_nil)) sa_nil))) (se_op sr_eqD (sv 1) (se_call (sa_cons (SN.se (sn_lc (si_list (sv 2)) sg_name st_yesD (se_op sr_ixL (sv 0) (sv 3)) (by decide))) sa_nil)))))⟩) (fun ds n Q ⟨_, _, _, _, e, _⟩ => by rw [e]; rfl) fun ds n Q ⟨cs, d, ns, wd, e, c1, w0, w1, ok, n0, n1, nin, sh, q⟩ => ?_
  subst e
  obtain ⟨c0, cs', ec⟩ : ∃ c0 cs', cs = c0 :: cs' := by
    cases cs with
    | nil =>
      cases ns with
      | nil => exact absurd n0 (by decide)
      | cons x t => have := nin x (List.mem_cons_self ..); exact absurd this.2 (by have := this.1; simp; omega)
    | cons x t => exact ⟨x, t, rfl⟩
  have w00 := (ok c0 (by rw [ec]; exact List.mem_cons_self ..)).1
  have a0 : atI (cs.map eC) 0 = some (eC c0) := by rw [ec]; exact at0 (by decide) rfl
  have cok := colsAt_ok ok nin
  have cl : (colsAt cs ns).length = ns.length := by unfold colsAt; rw [List.length_map]
  have bl := boxL_ok (cs := cs) (wd := wd) n0
  refine ⟨_, rfl, _, rfl, _, _, _, rfl, rfl, a0, _, rfl, _, .inr rfl, d, _, 60, rfl, sh, by decide, by rw [List.length_map, w00]; omega, ?_⟩
  rw [List.length_map, w00]
  refine ⟨_, rfl, ?_⟩
  cases hb : isBox d (wd : Int) with
  | false =>
    refine q false ⟨fun h => (by cases h), fun h => ?_⟩
    rw [h] at hb
    have := isBox_of bl.1 bl.2.1 bl.2.2
    rw [show isBox (BxL cs wd ns) (wd : Int) = true from this] at hb
    cases hb
  | true =>
    obtain ⟨lo, hi, rfl, l1, l2, le⟩ := isBox_inv hb
    refine ⟨_, rfl, _, rfl, _, rfl, lcD (by rw [List.length_map]; omega) (fun i => (ns[i]?).map fun x => eC (cs.getD x.toNat [])) (fun i d Ky Kn ed ky kn => ?_) ?_⟩
    · obtain ⟨x, ex, rfl⟩ := mpG ed
      have hx := nin x (mem_i ex)
      exact ⟨_, rfl, _, rfl, _, _, _, rfl, rfl, cat_of hx.1 hx.2, ky _ (by rw [ex]; rfl)⟩
    rw [List.length_map, fmM]
    refine ⟨colsAt cs ns, wd, by unfold eP colsAt; rw [List.map_map]; rfl, by omega, by omega, by omega, fun x hx => (cok x hx).1, fun lo' hi' bx => ?_⟩
    obtain ⟨e1, e2⟩ := box_uni (by omega) bx
    refine ⟨(sh_eBh (by omega) (by omega)).sh (by decide), (sh_eBh (by rw [bx.l1]; omega) (by rw [bx.l2]; omega)).sh (by decide), ?_⟩
    show Q (.bool (PyData.eqv (eBh lo hi) (eBh lo' hi'))) n
    rw [eqv_eBh, e1, e2]
    refine q _ ⟨fun h => ?_, fun h => decide_eq_true (eBh_one h)⟩
    obtain ⟨h1, h2⟩ := of_decide_eq_true h
    rw [h1, h2]
    rfl
def LfW (cs : List (List Int)) (mo : Int) (d : PyData) (ms : List Int) : Prop := LfP cs mo d ms ∨ (ms = [] ∧ ∀ ns, ¬ LfP cs mo d ns)
def rLeafX : List Sl → Nat → DQ → Prop := fun ds n K => ∃ (cs : List (List Int)) (mo : Int) (d : PyData), ds = [.d (eP cs), .d (.int mo), .d d] ∧ cs.length ≤ 1000 ∧ Sh d 60 ∧ ∀ ms, LfW cs mo d ms → K (eI ms) n
theorem okd_numbers_of_leaf (T : Tx K mg) {k : Nat} : FnOk P w K mg base CX0 (k + 4) T.f_numbers_of_leaf T.d_numbers_of_leaf ["palette", "most", "numbers"] (spD rLeafX) := by
  refine okD T.F_numbers_of_leaf sc_numbers_of_leaf _ (fun cdv A outer s H E hr => ⟨_, (pss_cons (ps_if (PW.pt (pw_or (pt_not (pt_val (pe_callB (call_isiK1 K) (by rfl) T.z_isinstance (by decide +kernel) (pa_cons (pv 2) (pa_cons (pe_bltn (v := .ty "tuple") (by rfl) T.z_tuple (by decide +kernel) rfl) pa_nil))))) (pw_or (pt_cmpR op_gt (pe_callB (len_K K) (by rfl) T.z_len PySem.boot_len (pa_cons (pv 2) pa_nil)) (pv 1) (nomark _)) (pw_or1 (pt_not (pt_val (pe_call (okd_are_some T (k := k)) hr (by rfl) T.g_are_some T.F_are_some.kp T.b_are_some .nil pass0 (pa_cons (pv 0) (pa_cons (pv 2) pa_nil))))))))) (pss_one (ps_ret (pe_lst pa_nil))) pss_nil)
      (pss_one (ps_ret (pe_callTy (list_K K) (by rfl) T.z_list (by decide +kernel) (pa_cons (pv 2) pa_nil))))),
      (ss_seq (ss_if (st_or (st_not (st_B (se_isi (sv 2)))) (st_or (st_test (se_op sr_bool (se_cb sc_len (sa_cons (sv 2) sa_nil)) (sv 1))) (st_not (st_B (se_call (sa_cons (sv 0) (sa_cons (sv 2) sa_nil))))))) (ss_retSN (sn_lst sa_nil)) ss_next)
      (ss_retSN (sn_cb scn_list (sa_cons (sv 2) sa_nil))))⟩) (fun ds n Q ⟨_, _, _, e, _⟩ => by rw [e]; rfl) fun ds n Q ⟨cs, mo, d, e, c1, sh, q⟩ => ?_
  subst e
  have no : (∀ ns, ¬ LfP cs mo d ns) → Q (.list []) n := fun h => q [] (.inr ⟨rfl, h⟩)
  obtain ⟨b, hb, ib⟩ := isi_tup sh
  refine ⟨_, rfl, b, hb, _, rfl, ?_⟩
  cases b with
  | false =>
    refine iteT ⟨_, rfl, by decide, no fun ns h => ?_⟩
    have := ib.mpr ⟨_, h.1⟩
    cases this
  | true =>
  obtain ⟨xs, rfl⟩ := ib.mp rfl
  obtain ⟨shx, lx⟩ := sh.tup1
  refine iteF ⟨_, rfl, _, rfl, xs, .inr rfl, _, rfl, _, _, rfl, rfl, _, rfl, ite2 (fun h => ?_) (fun h => ?_)⟩
  · have h := of_decide_eq_true h
    refine ⟨_, rfl, by decide, no fun ns g => ?_⟩
    have e := g.1
    injection e with e
    rw [e, List.length_map] at h
    have := g.2.2.1
    omega
  · have h := of_decide_eq_false (Bool.eq_false_iff.mpr h)
    refine ⟨_, rfl, _, rfl, cs, _, xs, rfl, .inr rfl, lx, c1, fun b hb => ⟨_, rfl, ?_⟩⟩
    cases b with
    | false =>
      refine iteT ⟨_, rfl, by decide, no fun ns g => ?_⟩
      have e := g.1
      injection e with e
      have := hb.mpr ⟨ns, e, g.2.1, g.2.2.2.1, g.2.2.2.2⟩
      cases this
    | true =>
      obtain ⟨ns, e, n0, np, ni⟩ := hb.mp rfl
      subst e
      refine iteF ⟨_, rfl, _, rfl, _, .inr rfl, q ns (.inl ⟨rfl, n0, ?_, np, ni⟩)⟩
      rw [List.length_map] at h
      omega
def rNodeX (f : Nat) : List Sl → Nat → DQ → Prop := fun ds n K => ∃ (cs : List (List Int)) (mo : Int) (d : PyData) (wd : Nat), ds = [.d (eP cs), .d (.int mo), .d d] ∧ cs.length ≤ 1000 ∧ 0 < wd ∧ wd ≤ 10 ∧ (∀ x ∈ cs, x.length = wd ∧ cIn 0 999 x) ∧ Sh d f ∧ f ≤ 50 ∧ ∀ ms : List Int, NW cs wd mo d ms → ms.Pairwise (· < ·) → K (eI ms) n
def rHalvX (f : Nat) : List Sl → Nat → DQ → Prop := fun ds n K => ∃ (cs : List (List Int)) (mo : Int) (x y : PyData) (wd : Nat), ds = [.d (eP cs), .d (.int mo), .d x, .d y] ∧ cs.length ≤ 1000 ∧ 0 < wd ∧ wd ≤ 10 ∧ (∀ x ∈ cs, x.length = wd ∧ cIn 0 999 x) ∧ Sh x f ∧ Sh y f ∧ f ≤ 50 ∧
  ∀ ms : List Int, ((∃ a b, HvP cs wd mo x y a b ∧ ms.Perm (a.nums ++ b.nums)) ∨ (ms = [] ∧ ∀ a b, ¬ HvP cs wd mo x y a b)) → ms.Pairwise (· < ·) → K (eI ms) n
def rHalvXS : Nat → List Sl → Nat → DQ → Prop
  | 0 => fun _ _ _ => False
  | f + 1 => rHalvX f
theorem eqv_nilI {ns : List Int} : PyData.eqv (eI ns) (.list []) = decide (ns = []) := by
  cases ns with
  | nil => rfl
  | cons x t => rfl
theorem shd_eI {ns : List Int} (h : ns.length ≤ 10000) : SeqAt.shaped (eI ns) = true := (sh_eI (by omega)).sh (by decide)
set_option maxHeartbeats 1000000 in
theorem halves_step (T : Tx K mg) {f k : Nat} (GS : FnOk P w K mg base CX0 (k + 2) T.f_numbers_of_node T.d_numbers_of_node ["palette", "most", "thing"] (spD (rNodeX f))) :
    FnOk P w K mg base CX0 (k + 3) T.f_numbers_of_halves T.d_numbers_of_halves ["palette", "most", "one", "other"] (spD (rHalvX f)) := by
  refine okD T.F_numbers_of_halves sc_numbers_of_halves _ (fun cdv A outer s H E hr => have hrS := hr; ⟨_, (pss_cons (ps_set (i := 4) sc_numbers_of_halves.nd rfl (.inl rfl) (pe_call GS hrS (by rfl) T.g_numbers_of_node T.F_numbers_of_node.kp T.b_numbers_of_node .nil pass0 (pa_cons (pv 0) (pa_cons (pv 1) (pa_cons (pv 2) pa_nil)))))
      (pss_cons (ps_if (pt_cmpR (op_eqDK K hr.units) (pv 4) (pe_lst pa_nil) (nomark _)) (pss_one (ps_ret (pe_lst pa_nil))) pss_nil)
      (pss_cons (ps_set (i := 5) sc_numbers_of_halves.nd rfl (.inl rfl) (pe_call GS hrS (by rfl) T.g_numbers_of_node T.F_numbers_of_node.kp T.b_numbers_of_node .nil pass0 (pa_cons (pv 0) (pa_cons (pv 1) (pa_cons (pv 3) pa_nil)))))
      (pss_cons (ps_set (i := 6) sc_numbers_of_halves.nd rfl (.inl rfl) (pe_callB (cr_sortedIK K) (by rfl) T.z_sorted (by decide +kernel) (pa_cons (pe_op op_cat (pv 4) (pv 5)) pa_nil)))
      (pss_cons (ps_if (PW.pt (pw_or (pt_cmpR (op_eqDK K hr.units) (pv 5) (pe_lst pa_nil) (nomark _)) (pw_or (pt_cmpR op_gt (pe_callB call_abs (by rfl) T.z_abs (by decide +kernel) (pa_cons (pe_op op_sub (pe_callB (len_K K) (by rfl) T.z_len PySem.boot_len (pa_cons (pv 4) pa_nil)) (pe_callB (len_K K) (by rfl) T.z_len PySem.boot_len (pa_cons (pv 5) pa_nil))) pa_nil)) pe_int (nomark _)) (pw_or1 (pt_not (pt_val (pe_call (okd_are_rising T (k := k)) hr (by rfl) T.g_are_rising T.F_are_rising.kp T.b_are_rising .nil pass0 (pa_cons (pv 6) pa_nil)))))))) (pss_one (ps_ret (pe_lst pa_nil))) pss_nil)
      (pss_one (ps_ret (pv 6)))))))),
      (ss_seq (ss_asg (se_call (sa_cons (sv 0) (sa_cons (sv 1) (sa_cons (sv 2) sa_nil)))) sg_name)
      (ss_seq (ss_if (st_test (se_op sr_eqD (sv 4) (SN.se (sn_lst sa_nil)))) (ss_retSN (sn_lst sa_nil)) ss_next)
      (ss_seq (ss_asg (se_call (sa_cons (sv 0) (sa_cons (sv 1) (sa_cons (sv 3) sa_nil)))) sg_name)
      (ss_seq (ss_asg (SN.se (sn_cb scn_sortI (sa_cons (SN.se (sn_op srn_cat (sv 4) (sv 5))) sa_nil))) sg_name)
      (ss_seq (ss_if (st_or (st_test (se_op sr_eqD (sv 5) (SN.se (sn_lst sa_nil)))) (st_or (st_test (se_op sr_bool (se_cb sc_abs (sa_cons (se_op sr_int (se_cb sc_len (sa_cons (sv 4) sa_nil)) (se_cb sc_len (sa_cons (sv 5) sa_nil))) sa_nil)) se_int)) (st_not (st_B (se_call (sa_cons (sv 6) sa_nil)))))) (ss_retSN (sn_lst sa_nil)) ss_next)
      (ss_ret (sv 6)))))))⟩) (fun ds n Q ⟨_, _, _, _, _, e, _⟩ => by rw [e]; rfl) fun ds n Q ⟨cs, mo, x, y, wd, e, c1, w0, w1, ok, sx, sy, f5, q⟩ => ?_
  subst e
  have no : (∀ a b, ¬ HvP cs wd mo x y a b) → Q (.list []) n := fun h => q [] (.inr ⟨rfl, h⟩) .nil
  refine ⟨_, rfl, _, rfl, _, rfl, cs, mo, x, wd, rfl, c1, w0, w1, ok, sx, f5, fun fs f1 f2 => ?_⟩
  have lf := f1.len
  refine ⟨_, rfl, _, rfl, by decide, shd_eI (by omega), rfl, _, congrArg PyData.bool eqv_nilI, ite2 (fun h => ?_) (fun h => ?_)⟩
  · have h := of_decide_eq_true h
    subst h
    exact ⟨_, rfl, by decide, no fun a b g => f1.nil _ g.1 g.2.2.1⟩
  have h := of_decide_eq_false (Bool.eq_false_iff.mpr h)
  obtain ⟨ta, ea, ra, pf⟩ := f1.ne h
  subst ea
  refine ⟨_, rfl, _, rfl, _, rfl, cs, mo, y, wd, rfl, c1, w0, w1, ok, sy, f5, fun ss s1 s2 => ?_⟩
  have ls := s1.len
  refine ⟨_, rfl, _, rfl, _, _, rfl, rfl, by rw [List.length_map, List.length_map]; omega, _, rfl, fs ++ ss, by unfold eI; rw [List.map_append], fun ks pk sk => ?_⟩
  have lk : ks.length = fs.length + ss.length := by rw [pk.length_eq, List.length_append]
  refine ⟨_, rfl, _, rfl, by decide, shd_eI (by omega), rfl, _, congrArg PyData.bool eqv_nilI, ite2 (fun h => ?_) (fun h => ?_)⟩
  · have h := of_decide_eq_true h
    subst h
    exact ⟨_, rfl, by decide, no fun a b g => s1.nil _ g.2.1 g.2.2.2.1⟩
  have h2 := of_decide_eq_false (Bool.eq_false_iff.mpr h)
  obtain ⟨tb, eb, rb, ps⟩ := s1.ne h2
  subst eb
  have lf2 := pf.length_eq
  have ls2 := ps.length_eq
  have p2 : ks.Perm (ta.nums ++ tb.nums) := pk.trans (pf.append ps)
  have un : ∀ {a b}, HvP cs wd mo (eT ta) (eT tb) a b → a = ta ∧ b = tb := fun g => ⟨(eT_one g.1).symm, (eT_one g.2.1).symm⟩
  refine ⟨_, rfl, _, rfl, _, .inl rfl, _, rfl, _, rfl, _, .inl rfl, _, _, rfl, rfl, _, rfl, _, rfl, _, _, rfl, rfl, _, rfl, ite2 (fun h => ?_) (fun h => ?_)⟩
  · have h := of_decide_eq_true h
    rw [List.length_map, List.length_map] at h
    refine ⟨_, rfl, by decide, no fun a b g => ?_⟩
    obtain ⟨e1, e2⟩ := un g
    obtain ⟨_, _, _, _, g1, g2, _⟩ := g
    rw [e1, e2] at g1 g2
    split at h <;> omega
  have h := of_decide_eq_false (Bool.eq_false_iff.mpr h)
  rw [List.length_map, List.length_map] at h
  refine ⟨_, rfl, eI ks, _, rfl, .inl rfl, by rw [List.length_map]; omega, fun b hb => ⟨_, rfl, ?_⟩⟩
  cases b with
  | false =>
    refine iteT ⟨_, rfl, by decide, no fun a b g => ?_⟩
    obtain ⟨e1, e2⟩ := un g
    obtain ⟨_, _, _, _, _, _, nd⟩ := g
    rw [e1, e2] at nd
    have := hb.mpr ⟨ks, rfl, lt_of_srt sk (p2.nodup_iff.mpr nd)⟩
    cases this
  | true =>
    obtain ⟨ns, e, pw⟩ := hb.mp rfl
    have e := ints_one e
    subst e
    refine iteF ⟨_, rfl, q ks (.inl ⟨ta, tb, ⟨rfl, rfl, ra, rb, ?_, ?_, p2.nodup_iff.mp (pw.imp fun h => by omega)⟩, p2⟩) pw⟩
    · split at h <;> omega
    · split at h <;> omega
/-- what is known behind the two looks -/
def Lk (cs : List (List Int)) (wd : Nat) (mo : Int) (d : PyData) (ms : List Int) : Prop := (Fnd cs wd mo d ms ∧ ms.Pairwise (· < ·)) ∨ (ms = [] ∧ NoT cs wd mo d)
theorem eqv_strB {x : PyData} {s : Str} : PyData.eqv x (.str s) = cdec (x = .str s) := cdec_of eqv_str1
set_option maxHeartbeats 1000000 in
theorem node_step (T : Tx K mg) {f k : Nat} (GS : FnOk P w K mg base CX0 (k + 4) T.f_numbers_of_halves T.d_numbers_of_halves ["palette", "most", "one", "other"] (spD (rHalvXS f))) :
    FnOk P w K mg base CX0 (k + 5) T.f_numbers_of_node T.d_numbers_of_node ["palette", "most", "thing"] (spD (rNodeX f)) := by
  refine okD T.F_numbers_of_node sc_numbers_of_node _ (fun cdv A outer s H E hr => have hrS := hr; ⟨_, (pss_cons (ps_set (i := 3) sc_numbers_of_node.nd rfl (.inl rfl) (pe_lst pa_nil))
      (Evl.pss_cut (ps_if (PW.pt (pw_and (pt_val (pe_callB (call_isiK1 K) (by rfl) T.z_isinstance (by decide +kernel) (pa_cons (pv 2) (pa_cons (pe_bltn (v := .ty "tuple") (by rfl) T.z_tuple (by decide +kernel) rfl) pa_nil)))) (pw_and (pt_cmpR op_eq (pe_callB (len_K K) (by rfl) T.z_len PySem.boot_len (pa_cons (pv 2) pa_nil)) pe_int (nomark _)) (pw_and1 (pt_cmpR (op_eqDK K hr.units) (pe_ix (ix_tupK K) (pv 2) pe_int (fun _ _ => rfl)) pe_str (nomark _)))))) (pss_one (ps_set (i := 3) sc_numbers_of_node.nd rfl (.inl rfl) (pe_call (okd_numbers_of_leaf T (k := k)) hr (by rfl) T.g_numbers_of_leaf T.F_numbers_of_leaf.kp T.b_numbers_of_leaf .nil pass0 (pa_cons (pv 0) (pa_cons (pv 1) (pa_cons (pe_ix (ix_tupK K) (pv 2) pe_int (fun _ _ => rfl)) pa_nil)))))) pss_nil)
      (Evl.pss_cut (ps_if (PW.pt (pw_and (pt_val (pe_callB (call_isiK1 K) (by rfl) T.z_isinstance (by decide +kernel) (pa_cons (pv 2) (pa_cons (pe_bltn (v := .ty "tuple") (by rfl) T.z_tuple (by decide +kernel) rfl) pa_nil)))) (pw_and (pt_cmpR op_eq (pe_callB (len_K K) (by rfl) T.z_len PySem.boot_len (pa_cons (pv 2) pa_nil)) pe_int (nomark _)) (pw_and1 (pt_cmpR (op_eqDK K hr.units) (pe_ix (ix_tupK K) (pv 2) pe_int (fun _ _ => rfl)) pe_str (nomark _)))))) (pss_one (ps_set (i := 3) sc_numbers_of_node.nd rfl (.inl rfl) (pe_call GS hrS (by rfl) T.g_numbers_of_halves T.F_numbers_of_halves.kp T.b_numbers_of_halves .nil pass0 (pa_cons (pv 0) (pa_cons (pv 1) (pa_cons (pe_ix (ix_tupK K) (pv 2) pe_int (fun _ _ => rfl)) (pa_cons (pe_ix (ix_tupK K) (pv 2) pe_int (fun _ _ => rfl)) pa_nil))))))) pss_nil)
      (pss_cons (ps_if (PW.pt (pw_or (pt_cmpR (op_eqDK K hr.units) (pv 3) (pe_lst pa_nil) (nomark _)) (pw_or1 (pt_not (pt_val (pe_call (okd_is_just_box T (k := k)) hr (by rfl) T.g_is_just_box T.F_is_just_box.kp T.b_is_just_box .nil pass0 (pa_cons (pv 0) (pa_cons (pe_ix (ix_tupK K) (pv 2) pe_int (fun _ _ => rfl)) (pa_cons (pv 3) pa_nil))))))))) (pss_one (ps_ret (pe_lst pa_nil))) pss_nil)
      (pss_one (ps_ret (pv 3))))))),
      (ss_seq (ss_asg (SN.se (sn_lst sa_nil)) sg_name)
      (ss_cut (ss_if (st_and (st_B (se_isi (sv 2))) (st_and (st_test (se_op sr_eqI (se_cb sc_len (sa_cons (sv 2) sa_nil)) se_int)) (st_test (se_op sr_eqD (se_op sr_ixT (sv 2) se_int) se_str)))) (ss_asg (se_call (sa_cons (sv 0) (sa_cons (sv 1) (sa_cons (se_op sr_ixT (sv 2) se_int) sa_nil)))) sg_name) ss_next)
      (ss_cut (ss_if (st_and (st_B (se_isi (sv 2))) (st_and (st_test (se_op sr_eqI (se_cb sc_len (sa_cons (sv 2) sa_nil)) se_int)) (st_test (se_op sr_eqD (se_op sr_ixT (sv 2) se_int) se_str)))) (ss_asg (se_call (sa_cons (sv 0) (sa_cons (sv 1) (sa_cons (se_op sr_ixT (sv 2) se_int) (sa_cons (se_op sr_ixT (sv 2) se_int) sa_nil))))) sg_name) ss_next)
      (ss_seq (ss_if (st_or (st_test (se_op sr_eqD (sv 3) (SN.se (sn_lst sa_nil)))) (st_not (st_B (se_call (sa_cons (sv 0) (sa_cons (se_op sr_ixT (sv 2) se_int) (sa_cons (sv 3) sa_nil))))))) (ss_retSN (sn_lst sa_nil)) ss_next)
      (ss_ret (sv 3))))))⟩) (fun ds n Q ⟨_, _, _, _, e, _⟩ => by rw [e]; rfl) fun ds n Q ⟨cs, mo, d, wd, e, c1, w0, w1, ok, sd, f5, q⟩ => ?_
  subst e
  have sh4 : Sh (.str "leaf") 0 := ⟨by decide +kernel, by rw [PyData.depth]; omega, by rw [wide]⟩
  have sh5 : Sh (.str "node") 0 := ⟨by decide +kernel, by rw [PyData.depth]; omega, by rw [wide]⟩
  refine ⟨_, rfl, by decide, fun δ j => ∃ ms : List Int, δ = [.d (eP cs), .d (.int mo), .d d, .d (eI ms)] ∧ j = n ∧ ((∃ bx x, d = .tuple [.str "leaf", bx, x] ∧ LfP cs mo x ms) ∨ (ms = [] ∧ ∀ bx x, d = .tuple [.str "leaf", bx, x] → NoT cs wd mo d)), ?_, fun δ j ⟨ms, eδ, ej, h1⟩ => ?_⟩
  · obtain ⟨b, hb, ib⟩ := isi_tup sd
    refine ⟨_, rfl, b, hb, _, rfl, ?_⟩
    cases b with
    | false => exact iteF (iteF ⟨[], rfl, rfl, .inr ⟨rfl, fun bx x e => NoT.other fun h => by have := ib.mpr h; cases this⟩⟩)
    | true =>
    obtain ⟨xs, rfl⟩ := ib.mp rfl
    refine iteT ⟨_, rfl, _, rfl, xs, .inr rfl, _, _, rfl, rfl, _, rfl, ?_⟩
    dsimp only
    by_cases l3 : (xs.length : Int) = 3
    case neg =>
      rw [decide_eq_false l3]
      refine iteF (iteF ⟨[], rfl, rfl, .inr ⟨rfl, fun bx x e => absurd ?_ l3⟩⟩)
      injection e with e
      rw [e]
      rfl
    rw [decide_eq_true l3]
    obtain ⟨u, bx, x, rfl⟩ : ∃ u v x, xs = [u, v, x] := by
      match xs, l3 with
      | [u, v, x], _ => exact ⟨u, v, x, rfl⟩
      | [], h => simp at h
      | [_], h => simp at h
      | [_, _], h => simp at h
      | _ :: _ :: _ :: _ :: _, h => simp at h; omega
    obtain ⟨shx, lx⟩ := sd.tup1
    have su := (shx u (by simp)).sh (by omega)
    refine iteT ⟨_, rfl, _, _, _, rfl, rfl, at0 (by decide) rfl, su, sh4.sh (by decide), ?_⟩
    refine ⟨_, congrArg PyData.bool eqv_strB, ite2 (fun h => ?_) (fun h => ?_)⟩
    · have hu := cdec_iff.mp h
      subst hu
      refine ⟨_, rfl, _, rfl, _, rfl, _, _, _, rfl, rfl, at0 (by decide) rfl, cs, mo, x, rfl, c1, (shx x (by simp)).mono (by omega), fun ms hm => ⟨ms, rfl, rfl, ?_⟩⟩
      rcases hm with hm | ⟨hm, hn⟩
      · exact .inl ⟨bx, x, rfl, hm⟩
      · exact .inr ⟨hm, fun bx' x' e => NoT.leaf hn⟩
    · refine ⟨[], rfl, rfl, .inr ⟨rfl, fun bx' x' e => NoT.three fun hu => h (cdec_iff.mpr hu)⟩⟩
  subst eδ ej
  have l1 : ms.length ≤ cs.length := by
    rcases h1 with ⟨_, _, _, _, n0, n1, np, ni⟩ | ⟨e, _⟩
    · exact nd_le (np.imp fun h => by omega) ni
    · rw [e]; exact Nat.zero_le _
  refine ⟨fun δ j' => ∃ ms : List Int, δ = [.d (eP cs), .d (.int mo), .d d, .d (eI ms)] ∧ j' = j ∧ Lk cs wd mo d ms, ?_, fun δ j' ⟨ms, eδ, ej, h2⟩ => ?_⟩
  · obtain ⟨b, hb, ib⟩ := isi_tup sd
    refine ⟨_, rfl, b, hb, _, rfl, ?_⟩
    have keep : (∀ u v x y, d ≠ .tuple [u, v, x, y]) → ∀ {X : Prop}, (Lk cs wd mo d ms → X) → X := fun hn X k => k <| by
      rcases h1 with ⟨bx, x, e, lp⟩ | ⟨e, no⟩
      · subst e
        exact .inl ⟨Fnd.leaf lp, lp.2.2.2.1⟩
      · refine .inr ⟨e, fun t et rt => ?_⟩
        cases t with
        | leaf lo hi ns => exact no _ _ et _ et rt
        | node lo hi a b => exact hn _ _ _ _ et
    cases b with
    | false => exact iteF (iteF (keep (fun u v x y e => by have := ib.mpr ⟨_, e⟩; cases this) fun h => ⟨ms, rfl, rfl, h⟩))
    | true =>
    obtain ⟨xs, rfl⟩ := ib.mp rfl
    refine iteT ⟨_, rfl, _, rfl, xs, .inr rfl, _, _, rfl, rfl, _, rfl, ?_⟩
    dsimp only
    by_cases l4 : (xs.length : Int) = 4
    case neg =>
      rw [decide_eq_false l4]
      refine iteF (iteF (keep (fun u v x y e => l4 ?_) fun h => ⟨ms, rfl, rfl, h⟩))
      injection e with e
      rw [e]
      rfl
    rw [decide_eq_true l4]
    obtain ⟨u, bx, x, y, rfl⟩ : ∃ u v x y, xs = [u, v, x, y] := by
      match xs, l4 with
      | [u, v, x, y], _ => exact ⟨u, v, x, y, rfl⟩
      | [], h => simp at h
      | [_], h => simp at h
      | [_, _], h => simp at h
      | [_, _, _], h => simp at h
      | _ :: _ :: _ :: _ :: _ :: _, h => simp at h; omega
    have ems : ms = [] := by
      rcases h1 with ⟨_, _, e, _⟩ | ⟨e, _⟩
      · injection e with e; injection e with _ e; injection e with _ e; injection e with _ e; cases e
      · exact e
    subst ems
    obtain ⟨shx, lx⟩ := sd.tup1
    have su := (shx u (by simp)).sh (by omega)
    refine iteT ⟨_, rfl, _, _, _, rfl, rfl, at0 (by decide) rfl, su, sh5.sh (by decide), ?_⟩
    refine ⟨_, congrArg PyData.bool eqv_strB, ite2 (fun h => ?_) (fun h => ?_)⟩
    · have hu := cdec_iff.mp h
      subst hu
      obtain ⟨g, eg, hs, _⟩ := sd.tupI
      subst eg
      refine ⟨_, rfl, _, rfl, _, rfl, _, _, _, rfl, rfl, at0 (by decide) rfl, _, rfl, _, _, _, rfl, rfl, at0 (by decide) rfl, cs, mo, x, y, wd, rfl, c1, w0, w1, ok, hs x (by simp), hs y (by simp), by omega, fun ms hm pw => ⟨ms, rfl, rfl, ?_⟩⟩
      rcases hm with ⟨a, b, hv, p⟩ | ⟨hm, hn⟩
      · exact .inl ⟨Fnd.node hv p, pw⟩
      · exact .inr ⟨hm, NoT.node hn⟩
    · exact ⟨[], rfl, rfl, .inr ⟨rfl, NoT.four fun hu => h (cdec_iff.mpr hu)⟩⟩
  subst eδ ej
  have l2 : ms.length ≤ cs.length := by
    rcases h2 with ⟨⟨_, _, _, _, _, nd, ni, _⟩, _⟩ | ⟨e, _⟩
    · exact nd_le nd ni
    · rw [e]; exact Nat.zero_le _
  refine ⟨_, rfl, _, rfl, by decide, shd_eI (by omega), rfl, _, congrArg PyData.bool eqv_nilI, ite2 (fun h => ?_) (fun h => ?_)⟩
  · have h := of_decide_eq_true h
    subst h
    refine ⟨_, rfl, by decide, q [] (.inr ⟨rfl, ?_⟩) .nil⟩
    rcases h2 with ⟨⟨_, _, _, _, p, _⟩, _⟩ | ⟨_, hn⟩
    · exact absurd p (by decide)
    · exact hn
  have h := of_decide_eq_false (Bool.eq_false_iff.mpr h)
  rcases h2 with ⟨⟨u, bx, rest, e, p0, nd, ni, hy, hn⟩, pw⟩ | ⟨e, _⟩
  case inr => exact absurd e h
  subst e
  obtain ⟨shx, lx⟩ := sd.tup1
  refine ⟨_, rfl, _, rfl, _, _, _, rfl, rfl, at0 (by decide) rfl, _, rfl, cs, bx, ms, wd, rfl, c1, w0, w1, ok, p0, by omega, ni, (shx bx (by simp)).mono (by omega), fun b hb => ⟨_, rfl, ?_⟩⟩
  cases b with
  | false => exact iteT ⟨_, rfl, by decide, q [] (.inr ⟨rfl, hn fun e => by have := hb.mpr e; cases this⟩) .nil⟩
  | true => exact iteF ⟨_, rfl, q ms (.inl (hy (hb.mp rfl))) pw⟩
theorem node_all (T : Tx K mg) {k : Nat} : ∀ f : Nat, FnOk P w K mg base CX0 (k + 5 + 2 * f) T.f_numbers_of_node T.d_numbers_of_node ["palette", "most", "thing"] (spD (rNodeX f))
  | 0 => node_step T (f := 0) FnOk.no
  | f + 1 => by
    have h := node_all T (k := k) f
    have e : k + 5 + 2 * f = (k + 3 + 2 * f) + 2 := by omega
    rw [e] at h
    have h2 := node_step T (f := f + 1) (k := k + 2 + 2 * f) (by
      have := halves_step T h
      have e : k + 3 + 2 * f + 3 = k + 2 + 2 * f + 4 := by omega
      rw [e] at this
      exact this)
    have e : k + 2 + 2 * f + 5 = k + 5 + 2 * (f + 1) := by omega
    rw [e] at h2
    exact h2
theorem okd_numbers_of_node (T : Tx K mg) {k : Nat} : FnOk P w K mg base CX0 (k + 45) T.f_numbers_of_node T.d_numbers_of_node ["palette", "most", "thing"] (spD (rNodeX 20)) := node_all T (k := k) 20
theorem eqv_eI (a b : List Int) : PyData.eqv (eI a) (eI b) = decide (a = b) := eqv_eC a b
def rIsTreeX : List Sl → Nat → DQ → Prop := fun ds n K => ∃ (cs : List (List Int)) (mo : Int) (d : PyData) (wd : Nat), ds = [.d (eP cs), .d (.int mo), .d d] ∧ 0 < cs.length ∧ cs.length ≤ 1000 ∧ 0 < wd ∧ wd ≤ 10 ∧ (∀ x ∈ cs, x.length = wd ∧ cIn 0 999 x) ∧ Sh d 20 ∧ ∀ b : Bool, (b = true ↔ IsT cs wd mo d) → K (.bool b) n
theorem NW.is {cs : List (List Int)} {wd : Nat} {mo : Int} {d : PyData} {ms ks : List Int} (c0 : 0 < cs.length) (h : NW cs wd mo d ms) (p : ks.Perm ms) (pw : ks.Pairwise (· ≤ ·)) : decide (ks = allN cs.length) = true ↔ IsT cs wd mo d := by
  constructor
  · intro h2
    have e := of_decide_eq_true h2
    have pm : ms.Perm (allN cs.length) := by rw [← e]; exact p.symm
    obtain ⟨t, et, rt, pt⟩ := h.ne fun z => by
      rw [z] at pm
      have := pm.length_eq
      rw [allN_length] at this
      exact absurd this (by show (0 : Nat) ≠ _; omega)
    exact ⟨t, et, rt, pt.symm.trans pm⟩
  · rintro ⟨t, et, rt, pt⟩
    have pm : ms.Perm t.nums := by
      rcases h with ⟨u, eu, _, pu⟩ | ⟨_, hn⟩
      · rw [eT_one (et.symm.trans eu)]; exact pu
      · exact absurd rt (hn t et)
    exact decide_eq_true ((p.trans (pm.trans pt)).eq_of_pairwise (fun x y _ _ h1 h2 => by omega) pw (allN_pw _))
theorem okd_is_tree (T : Tx K mg) {k : Nat} : FnOk P w K mg base CX0 (k + 46) T.f_is_tree T.d_is_tree ["palette", "most", "thing"] (spD rIsTreeX) := by
  refine okD T.F_is_tree sc_is_tree _ (fun cdv A outer s H E hr => ⟨_, (pss_one (ps_ret (pe_cmpR (op_eqDK K hr.units) (pe_call (okd_numbers_of_node T (k := k)) hr (by rfl) T.g_numbers_of_node T.F_numbers_of_node.kp T.b_numbers_of_node .nil pass0 (pa_cons (pv 0) (pa_cons (pv 1) (pa_cons (pv 2) pa_nil)))) (pe_listRg rfl (by rfl) T.z_list (prg_1 (by rfl) T.z_range (pe_callB (len_K K) (by rfl) T.z_len PySem.boot_len (pa_cons (pv 0) pa_nil)))) (nomark _)))),
      (ss_ret (se_op sr_eqD (se_call (sa_cons (sv 0) (sa_cons (sv 1) (sa_cons (sv 2) sa_nil)))) (SN.se (sn_rg1 (se_cb sc_len (sa_cons (sv 0) sa_nil))))))⟩) (fun ds n Q ⟨_, _, _, _, e, _⟩ => by rw [e]; rfl) fun ds n Q ⟨cs, mo, d, wd, e, c0, c1, w0, w1, ok, sd, q⟩ => ?_
  subst e
  have hz : ((cs.map eC).length : Int) ≤ 1000 := by rw [List.length_map]; omega
  have hrg : RgOk 0 ((cs.map eC).length : Int) := RgOk.of_le (by omega) (by omega) (by omega) (by omega)
  have e : ((List.range ((cs.map eC).length : Int).toNat).map fun i => PyData.int ((i : Nat) : Int)) = (allN cs.length).map .int := by
    unfold allN
    rw [Int.toNat_natCast, List.length_map, List.map_map]
    rfl
  refine ⟨_, rfl, _, rfl, _, rfl, cs, mo, d, wd, rfl, c1, w0, w1, ok, sd, by decide, fun ms m1 m2 => ?_⟩
  have lm := m1.len
  refine ⟨_, rfl, _, rfl, _, .inl rfl, _, rfl, hrg, ?_⟩
  rw [e]
  refine ⟨shd_eI (by omega), shd_eI (by rw [allN_length]; omega), ?_⟩
  show Q (.bool (PyData.eqv (eI ms) (eI (allN cs.length)))) n
  rw [eqv_eI]
  exact q _ (m1.is c0 (.refl _) (m2.imp fun h => by omega))
theorem num_int {d : PyData} (h : isNum d = true) : ∃ i, d = .int i := by
  cases d with
  | int i => exact ⟨i, rfl⟩
  | _ => exact absurd h (by simp [isNum])
theorem isi_num {d : PyData} {j : Nat} (h : Sh d j) : ∃ b1 b2, kitB (tyn d) "int" = some b1 ∧ kitB (tyn d) "bool" = some b2 ∧ isNum d = (b1 && !b2) := by
  cases d with
  | none => exact ⟨false, false, (by decide +kernel : kitB "NoneType" "int" = some false), (by decide +kernel : kitB "NoneType" "bool" = some false), rfl⟩
  | bool b => exact ⟨true, true, kBl (by decide +kernel), kBl (by decide +kernel), rfl⟩
  | int i => exact ⟨true, false, kNt (by decide +kernel), kNt (by decide +kernel), rfl⟩
  | str s => exact ⟨false, false, kSt (by decide +kernel), kSt (by decide +kernel), rfl⟩
  | list xs => exact ⟨false, false, kLs (by decide +kernel), kLs (by decide +kernel), rfl⟩
  | tuple xs => exact ⟨false, false, kTp (by decide +kernel), kTp (by decide +kernel), rfl⟩
  | dict xs => exact absurd h.1 (by simp [PyData.canLay0])
def NumP (m : Nat) (xs : List PyData) (ns : List Int) : Prop := xs = ns.map PyData.int ∧ ns.Pairwise (· < ·) ∧ ∀ n ∈ ns, 0 ≤ n ∧ n < (m : Int)
def rLAreP : List Sl → Nat → DQ → Prop := fun ds n K => ∃ (cs : List (List Int)) (d : PyData) (xs : List PyData), ds = [.d (eP cs), .d d] ∧ Sq d xs ∧ cs.length ≤ 1000 ∧ xs.length ≤ 100000 ∧ (∀ x ∈ xs, Sh x 60) ∧ ∀ b : Bool, (b = true ↔ ∃ ns, NumP cs.length xs ns) → K (.bool b) n
set_option maxHeartbeats 1000000 in
theorem okd_l_are_numbers (T : Tx K mg) {k : Nat} : FnOk P w K mg base CX0 (k + 1) T.f_l_are_numbers T.d_l_are_numbers ["_law_palette_here", "_law_thing"] (spD rLAreP) := by
  refine okD T.F_l_are_numbers sc_l_are_numbers _ (fun cdv A outer s H E hr => ⟨_, (pss_cons (ps_for PassesOwn.never rfl (pi_seqK K (pv 1)) (pg_name (i := 2) sc_l_are_numbers.nd rfl (.inl rfl)) (pss_one (ps_if (PW.pt (pw_or (pt_not (pt_val (pe_callB (call_isiK1 K) (by rfl) T.z_isinstance (by decide +kernel) (pa_cons (pv 2) (pa_cons (pe_bltn (v := .ty "int") (by rfl) T.z_int (by decide +kernel) rfl) pa_nil))))) (pw_or (pt_val (pe_callB (call_isiK1 K) (by rfl) T.z_isinstance (by decide +kernel) (pa_cons (pv 2) (pa_cons (pe_bltn (v := .ty "bool") (by rfl) T.z_bool (by decide +kernel) rfl) pa_nil)))) (pw_or1 (pt_not (pt_chain op_le op_lt pe_int (pv 2) (pe_callB (len_K K) (by rfl) T.z_len PySem.boot_len (pa_cons (pv 0) pa_nil)))))))) (pss_one (ps_ret pe_bl)) pss_nil)))
      (pss_one (ps_ret (pe_callB (cr_allK K rfl) (by rfl) T.z_all (by decide +kernel) (pa_cons (pe_lc (own := [("_law_one", 3), ("_law_other", 4)]) (by rfl) sc_l_are_numbers.nd (RZ.pi_zipA (by rfl) T.z_zip (pa_cons (pv 1) (pa_cons (pe_slice (SlR.or (sl_listK K) (sl_tupAK K)) (pv 1) (po_some pe_int) po_none) pa_nil))) (blkOk_by (own := [("_law_one", 3), ("_law_other", 4)]) (N := N_l_are_numbers) (sc := defScope s_l_are_numbers) (by decide +kernel)) (fun _ _ _ _ _ => (pg_tupK K (n := 2) rfl (pgs_cons (pg_name (i := 3) sc_l_are_numbers.nd rfl (.inl rfl)) (pgs_cons (pg_name (i := 4) sc_l_are_numbers.nd rfl (.inl rfl)) pgs_nil)))) (fun _ _ _ _ _ => pts_nil) (fun _ _ _ _ _ => (pe_cmpR op_lt (pv 3) (pv 4) (nomark _)))) pa_nil))))),
      (ss_seq (ss_for (si_seq (sv 1)) sg_name (ss_if (st_or (st_not (st_B (se_isi (sv 2)))) (st_or (st_B (se_isi (sv 2))) (st_not (st_test (se_chain sr_bool sr_bool se_int (sv 2) (se_cb sc_len (sa_cons (sv 0) sa_nil))))))) (ss_ret se_bl) ss_next))
      (ss_ret (se_cb sc_all (sa_cons (SN.se (sn_lc (si_zip (sa_cons (sv 1) (sa_cons (se_slE (sv 1) (so_some se_int) so_none) sa_nil))) (sg_tup (sgs_cons sg_name (sgs_cons sg_name sgs_nil))) st_yesD (se_op sr_bool (sv 3) (sv 4)) (by decide))) sa_nil))))⟩) (fun ds n Q ⟨_, _, _, e, _⟩ => by rw [e]; rfl) fun ds n Q ⟨cs, d, xs, e, ed, c1, n1, shx, q⟩ => ?_
  subst e
  have no : (¬ ∃ ns, NumP cs.length xs ns) → Q (.bool false) n := fun h => q false ⟨fun h => (by cases h), fun z => absurd z h⟩
  have bad : ∀ {x : PyData}, x ∈ xs → (¬ ∃ i : Int, x = .int i ∧ 0 ≤ i ∧ i < (cs.length : Int)) → Q (.bool false) n := fun {x} hx h => no fun ⟨ns, e, _, hn⟩ => by
    rw [e] at hx
    obtain ⟨i, hi, rfl⟩ := List.mem_map.mp hx
    exact h ⟨i, rfl, hn i hi⟩
  have put : ∀ {i : Nat} {x : Int}, xs[i]? = some (.int x) → 0 ≤ x → x < (cs.length : Int) → (∃ ns : List Int, xs.take i = ns.map PyData.int ∧ ∀ n ∈ ns, 0 ≤ n ∧ n < (cs.length : Int)) → ∃ ns : List Int, xs.take (i + 1) = ns.map PyData.int ∧ ∀ n ∈ ns, 0 ≤ n ∧ n < (cs.length : Int) := fun {i x} ex h0 h1 ⟨ns, e, hn⟩ => ⟨ns ++ [x], by
    have hi := (List.getElem?_eq_some_iff.mp ex).1
    rw [List.take_succ_eq_append_getElem hi, e, List.map_append]
    rw [List.getElem?_eq_getElem hi] at ex
    rw [Option.some.inj ex]
    rfl, fun y hy => (List.mem_append.mp hy).elim (hn y) fun h => by rw [List.mem_singleton.mp h]; exact ⟨h0, h1⟩⟩
  rcases ed with rfl | rfl
  · refine .inl ⟨_, rfl, _, rfl, fun i δ j => ∃ x2 x3 x4 : Sl, δ = [.d (eP cs), .d (.list xs), x2, x3, x4] ∧ j = n ∧ ∃ ns : List Int, xs.take i = ns.map PyData.int ∧ ∀ n ∈ ns, 0 ≤ n ∧ n < (cs.length : Int), ⟨_, _, _, rfl, rfl, [], rfl, fun _ h => nomatch h⟩, fun i d δ j ed ⟨x2, x3, x4, eδ, ej, hns⟩ => ?_, fun δ j ⟨x2, x3, x4, eδ, ej, ns, en, hns⟩ => ?_⟩
    · subst eδ ej
      have md := mem_i ed
      obtain ⟨b1, b2, h1, h2, h3⟩ := isi_num (shx d md)
      have nn : isNum d = false → Q (.bool false) j := fun h => bad md fun ⟨i, e, _⟩ => by rw [e] at h; cases h
      refine ⟨_, rfl, b1, h1, _, rfl, ?_⟩
      cases b1 with
      | false => exact iteT (nn h3)
      | true =>
      refine iteF ⟨_, rfl, b2, h2, _, rfl, ?_⟩
      cases b2 with
      | true => exact iteT (nn h3)
      | false =>
      obtain ⟨x, rfl⟩ := num_int h3
      refine iteF ⟨_, rfl, _, _, rfl, rfl, _, rfl, ?_⟩
      by_cases x0 : 0 ≤ x
      · rw [decide_eq_true x0]
        refine iteT ⟨_, rfl, _, rfl, _, .inl rfl, _, _, rfl, rfl, _, rfl, ?_⟩
        by_cases x1 : x < (cs.length : Int)
        · exact iteN (by rw [decide_eq_true (by rw [List.length_map]; exact x1)]; rfl) ⟨_, _, _, rfl, rfl, put ed x0 x1 hns⟩
        · refine iteE (by rw [decide_eq_false (by rw [List.length_map]; exact x1)]; rfl) (bad md fun ⟨i, e, _, h⟩ => x1 ?_)
          injection e with e
          rw [e]
          exact h
      · rw [decide_eq_false x0]
        refine iteN rfl ⟨_, rfl, iteE rfl (bad md fun ⟨i, e, h, _⟩ => x0 ?_)⟩
        injection e with e
        rw [e]
        exact h
    · subst eδ ej
      rw [List.take_length] at en
      subst en
      rw [List.length_map] at n1
      refine ⟨_, rfl, _, rfl, _, rfl, .inl ⟨_, rfl, _, _, .inl rfl, lcD (by rw [zpD_len, cutL1, List.length_drop, List.length_map]; omega) (fun i => (((ns.zip (ns.drop 1)).map fun p => decide (p.1 < p.2)).map PyData.bool)[i]?) (fun i d Ky Kn ed ky kn => ?_) ?_⟩⟩
      · have hi := (List.getElem?_eq_some_iff.mp ed).1
        rw [zpD_len, cutL1, List.length_drop, List.length_map] at hi
        have h1 : i < ns.length := by omega
        have h2 : i < (ns.drop 1).length := by rw [List.length_drop]; omega
        rw [zpD_get (x := .int ns[i]) (y := .int (ns.drop 1)[i]) (by rw [cutL1, List.length_drop, List.length_map]; exact hi) (by rw [List.getElem?_map, List.getElem?_eq_getElem h1]; rfl) (by rw [cutL1, ← List.map_drop, List.getElem?_map, List.getElem?_eq_getElem h2]; rfl)] at ed
        cases ed
        refine ⟨_, rfl, rfl, _, _, rfl, _, _, rfl, rfl, _, rfl, _, rfl, _, _, rfl, rfl, ky _ ?_⟩
        rw [List.getElem?_map, List.getElem?_map, List.getElem?_zip_eq_some (z := (ns[i], (ns.drop 1)[i])) |>.mpr ⟨List.getElem?_eq_getElem h1, List.getElem?_eq_getElem h2⟩]
        rfl
      · have el : min (ns.map PyData.int).length (cutL (ns.map PyData.int) (some 1) none).length = (((ns.zip (ns.drop 1)).map fun p => decide (p.1 < p.2)).map PyData.bool).length := by
          rw [cutL1, List.length_drop, List.length_map, List.length_map, List.length_map, List.length_zip, List.length_drop]
        rw [zpD_len, el, fm_id]
        refine ⟨_, rfl, (ns.zip (ns.drop 1)).map fun p => decide (p.1 < p.2), rfl, ?_⟩
        refine q _ ⟨fun h => ⟨ns, rfl, risB_pw.mp h, hns⟩, fun ⟨ks, e, h, _⟩ => ?_⟩
        rw [ints_one e]
        exact risB_pw.mpr h
  · refine .inr ⟨_, rfl, _, rfl, fun i δ j => ∃ x2 x3 x4 : Sl, δ = [.d (eP cs), .d (.tuple xs), x2, x3, x4] ∧ j = n ∧ ∃ ns : List Int, xs.take i = ns.map PyData.int ∧ ∀ n ∈ ns, 0 ≤ n ∧ n < (cs.length : Int), ⟨_, _, _, rfl, rfl, [], rfl, fun _ h => nomatch h⟩, fun i d δ j ed ⟨x2, x3, x4, eδ, ej, hns⟩ => ?_, fun δ j ⟨x2, x3, x4, eδ, ej, ns, en, hns⟩ => ?_⟩
    · subst eδ ej
      have md := mem_i ed
      obtain ⟨b1, b2, h1, h2, h3⟩ := isi_num (shx d md)
      have nn : isNum d = false → Q (.bool false) j := fun h => bad md fun ⟨i, e, _⟩ => by rw [e] at h; cases h
      refine ⟨_, rfl, b1, h1, _, rfl, ?_⟩
      cases b1 with
      | false => exact iteT (nn h3)
      | true =>
      refine iteF ⟨_, rfl, b2, h2, _, rfl, ?_⟩
      cases b2 with
      | true => exact iteT (nn h3)
      | false =>
      obtain ⟨x, rfl⟩ := num_int h3
      refine iteF ⟨_, rfl, _, _, rfl, rfl, _, rfl, ?_⟩
      by_cases x0 : 0 ≤ x
      · rw [decide_eq_true x0]
        refine iteT ⟨_, rfl, _, rfl, _, .inl rfl, _, _, rfl, rfl, _, rfl, ?_⟩
        by_cases x1 : x < (cs.length : Int)
        · exact iteN (by rw [decide_eq_true (by rw [List.length_map]; exact x1)]; rfl) ⟨_, _, _, rfl, rfl, put ed x0 x1 hns⟩
        · refine iteE (by rw [decide_eq_false (by rw [List.length_map]; exact x1)]; rfl) (bad md fun ⟨i, e, _, h⟩ => x1 ?_)
          injection e with e
          rw [e]
          exact h
      · rw [decide_eq_false x0]
        refine iteN rfl ⟨_, rfl, iteE rfl (bad md fun ⟨i, e, h, _⟩ => x0 ?_)⟩
        injection e with e
        rw [e]
        exact h
    · subst eδ ej
      rw [List.take_length] at en
      subst en
      rw [List.length_map] at n1
      refine ⟨_, rfl, _, rfl, _, rfl, .inr ⟨_, rfl, _, _, .inr rfl, lcD (by rw [zpD_len, cutL1, List.length_drop, List.length_map]; omega) (fun i => (((ns.zip (ns.drop 1)).map fun p => decide (p.1 < p.2)).map PyData.bool)[i]?) (fun i d Ky Kn ed ky kn => ?_) ?_⟩⟩
      · have hi := (List.getElem?_eq_some_iff.mp ed).1
        rw [zpD_len, cutL1, List.length_drop, List.length_map] at hi
        have h1 : i < ns.length := by omega
        have h2 : i < (ns.drop 1).length := by rw [List.length_drop]; omega
        rw [zpD_get (x := .int ns[i]) (y := .int (ns.drop 1)[i]) (by rw [cutL1, List.length_drop, List.length_map]; exact hi) (by rw [List.getElem?_map, List.getElem?_eq_getElem h1]; rfl) (by rw [cutL1, ← List.map_drop, List.getElem?_map, List.getElem?_eq_getElem h2]; rfl)] at ed
        cases ed
        refine ⟨_, rfl, rfl, _, _, rfl, _, _, rfl, rfl, _, rfl, _, rfl, _, _, rfl, rfl, ky _ ?_⟩
        rw [List.getElem?_map, List.getElem?_map, List.getElem?_zip_eq_some (z := (ns[i], (ns.drop 1)[i])) |>.mpr ⟨List.getElem?_eq_getElem h1, List.getElem?_eq_getElem h2⟩]
        rfl
      · have el : min (ns.map PyData.int).length (cutL (ns.map PyData.int) (some 1) none).length = (((ns.zip (ns.drop 1)).map fun p => decide (p.1 < p.2)).map PyData.bool).length := by
          rw [cutL1, List.length_drop, List.length_map, List.length_map, List.length_map, List.length_zip, List.length_drop]
        rw [zpD_len, el, fm_id]
        refine ⟨_, rfl, (ns.zip (ns.drop 1)).map fun p => decide (p.1 < p.2), rfl, ?_⟩
        refine q _ ⟨fun h => ⟨ns, rfl, risB_pw.mp h, hns⟩, fun ⟨ks, e, h, _⟩ => ?_⟩
        rw [ints_one e]
        exact risB_pw.mpr h
/-! ### the law's own look at a tree, of anything -/
theorem okd_l_same (T : Tx K mg) {k : Nat} : FnOk P w K mg base CX0 (k + 3) T.f_l_same T.d_l_same ["_law_found", "_law_due"] (spD (rSameX 2)) := sameX_all T (k := k) 2
def rLIsBoxX : List Sl → Nat → DQ → Prop := fun ds n K => ∃ (cs : List (List Int)) (ns : List Int) (d : PyData) (wd : Nat), ds = [.d d, .d (eP (colsAt cs ns))] ∧ 0 < ns.length ∧ ns.length ≤ 1000 ∧ (∀ c ∈ colsAt cs ns, c.length = wd) ∧ wd ≤ 10 ∧ Sh d 60 ∧ ∀ b : Bool, (b = true ↔ d = BxL cs wd ns) → K (.bool b) n
theorem okd_l_is_box (T : Tx K mg) {k : Nat} : FnOk P w K mg base CX0 (k + 4) T.f_l_is_box T.d_l_is_box ["_law_thing", "_law_colours"] (spD rLIsBoxX) := by
  refine okD T.F_l_is_box sc_l_is_box _ (fun cdv A outer s H E hr => ⟨_, (pss_one (ps_ret (pe_call (okd_l_same T (k := k)) hr (by rfl) T.g_l_same T.F_l_same.kp T.b_l_same .nil pass0 (pa_cons (pv 0) (pa_cons (pe_call (okd_l_box T (k := k + 2)) hr (by rfl) T.g_l_box T.F_l_box.kp T.b_l_box .nil pass0 (pa_cons (pv 1) pa_nil)) pa_nil))))),
      (ss_ret (se_call (sa_cons (sv 0) (sa_cons (se_call (sa_cons (sv 1) sa_nil)) sa_nil))))⟩) (fun ds n Q ⟨_, _, _, _, e, _⟩ => by rw [e]; rfl) fun ds n Q ⟨cs, ns, d, wd, e, x0, x1, xw, w1, sh, q⟩ => ?_
  subst e
  have cl : (colsAt cs ns).length = ns.length := by unfold colsAt; rw [List.length_map]
  refine ⟨_, rfl, _, rfl, colsAt cs ns, wd, rfl, by omega, by omega, xw, by omega, fun lo' hi' bx => ?_⟩
  obtain ⟨e1, e2⟩ := box_uni (by omega) bx
  refine ⟨_, _, rfl, sh, sh_eBh (by rw [bx.l1]; omega) (by rw [bx.l2]; omega), by decide, fun b hb => q b ?_⟩
  rw [hb, e1, e2]
  exact Iff.rfl
def rLTNX (f : Nat) : List Sl → Nat → DQ → Prop := fun ds n K => ∃ (cs : List (List Int)) (mo : Int) (d : PyData) (wd : Nat), ds = [.d (eP cs), .d (.int mo), .d d] ∧ cs.length ≤ 1000 ∧ 0 < wd ∧ wd ≤ 10 ∧ (∀ x ∈ cs, x.length = wd ∧ cIn 0 999 x) ∧ Sh d f ∧ f ≤ 50 ∧ ∀ ms, NW cs wd mo d ms → K (eI ms) n
def rLTNXS : Nat → List Sl → Nat → DQ → Prop
  | 0 => fun _ _ _ => False
  | f + 1 => rLTNX f
theorem cat_cols {cs : List (List Int)} {ns : List Int} : .list (ns.map fun x => eC (cs.getD x.toNat [])) = eP (colsAt cs ns) := by unfold eP colsAt; rw [List.map_map]; rfl
theorem isi_str {d : PyData} {j : Nat} (h : Sh d j) : ∃ b, kitB (tyn d) "str" = some b ∧ (b = true ↔ ∃ s, d = .str s) := by
  refine ⟨_, (kinds h).2.2.1, ?_⟩
  cases d <;> simp [isSD]
set_option maxHeartbeats 1000000 in
theorem ltn_step (T : Tx K mg) {f k : Nat} (GS : FnOk P w K mg base CX0 (k + 4) T.f_l_tree_numbers T.d_l_tree_numbers ["_law_palette_here", "_law_most", "_law_thing"] (spD (rLTNXS f))) :
    FnOk P w K mg base CX0 (k + 5) T.f_l_tree_numbers T.d_l_tree_numbers ["_law_palette_here", "_law_most", "_law_thing"] (spD (rLTNX f)) := by
  refine okD T.F_l_tree_numbers sc_l_tree_numbers _ (fun cdv A outer s H E hr => have hrS := hr; ⟨_, (pss_cons (ps_if (PW.pt (pw_or (pt_not (pt_val (pe_callB (call_isiK1 K) (by rfl) T.z_isinstance (by decide +kernel) (pa_cons (pv 2) (pa_cons (pe_bltn (v := .ty "tuple") (by rfl) T.z_tuple (by decide +kernel) rfl) pa_nil))))) (pw_or (pt_cmpR op_lt (pe_callB (len_K K) (by rfl) T.z_len PySem.boot_len (pa_cons (pv 2) pa_nil)) pe_int (nomark _)) (pw_or1 (pt_not (pt_val (pe_callB (call_isiK1 K) (by rfl) T.z_isinstance (by decide +kernel) (pa_cons (pe_ix (ix_tupK K) (pv 2) pe_int (fun _ _ => rfl)) (pa_cons (pe_bltn (v := .ty "str") (by rfl) T.z_str (by decide +kernel) rfl) pa_nil))))))))) (pss_one (ps_ret (pe_lst pa_nil))) pss_nil)
      (Evl.pss_cut (ps_if (pt_cmpR (op_eqDK K hr.units) (pe_ix (ix_tupK K) (pv 2) pe_int (fun _ _ => rfl)) pe_str (nomark _)) (pss_cons (ps_if (PW.pt (pw_or (pt_cmpR op_ne (pe_callB (len_K K) (by rfl) T.z_len PySem.boot_len (pa_cons (pv 2) pa_nil)) pe_int (nomark _)) (pw_or (pt_not (pt_val (pe_callB (call_isiK1 K) (by rfl) T.z_isinstance (by decide +kernel) (pa_cons (pe_ix (ix_tupK K) (pv 2) pe_int (fun _ _ => rfl)) (pa_cons (pe_bltn (v := .ty "tuple") (by rfl) T.z_tuple (by decide +kernel) rfl) pa_nil))))) (pw_or1 (pt_not (pt_chain op_lt op_le pe_int (pe_callB (len_K K) (by rfl) T.z_len PySem.boot_len (pa_cons (pe_ix (ix_tupK K) (pv 2) pe_int (fun _ _ => rfl)) pa_nil)) (pv 1))))))) (pss_one (ps_ret (pe_lst pa_nil))) pss_nil)
      (pss_cons (ps_if (pt_not (pt_val (pe_call (okd_l_are_numbers T (k := k + 3)) hr (by rfl) T.g_l_are_numbers T.F_l_are_numbers.kp T.b_l_are_numbers .nil pass0 (pa_cons (pv 0) (pa_cons (pe_ix (ix_tupK K) (pv 2) pe_int (fun _ _ => rfl)) pa_nil))))) (pss_one (ps_ret (pe_lst pa_nil))) pss_nil)
      (pss_one (ps_set (i := 3) sc_l_tree_numbers.nd rfl (.inl rfl) (pe_callTy (list_K K) (by rfl) T.z_list (by decide +kernel) (pa_cons (pe_ix (ix_tupK K) (pv 2) pe_int (fun _ _ => rfl)) pa_nil)))))) (pss_cons (ps_if (PW.pt (pw_or (pt_cmpR (op_neDK K hr.units) (pe_ix (ix_tupK K) (pv 2) pe_int (fun _ _ => rfl)) pe_str (nomark _)) (pw_or1 (pt_cmpR op_ne (pe_callB (len_K K) (by rfl) T.z_len PySem.boot_len (pa_cons (pv 2) pa_nil)) pe_int (nomark _))))) (pss_one (ps_ret (pe_lst pa_nil))) pss_nil)
      (pss_cons (ps_set (i := 4) sc_l_tree_numbers.nd rfl (.inl rfl) (pe_call GS hrS (by rfl) T.g_l_tree_numbers T.F_l_tree_numbers.kp T.b_l_tree_numbers .nil pass0 (pa_cons (pv 0) (pa_cons (pv 1) (pa_cons (pe_ix (ix_tupK K) (pv 2) pe_int (fun _ _ => rfl)) pa_nil)))))
      (pss_cons (ps_set (i := 5) sc_l_tree_numbers.nd rfl (.inl rfl) (pe_call GS hrS (by rfl) T.g_l_tree_numbers T.F_l_tree_numbers.kp T.b_l_tree_numbers .nil pass0 (pa_cons (pv 0) (pa_cons (pv 1) (pa_cons (pe_ix (ix_tupK K) (pv 2) pe_int (fun _ _ => rfl)) pa_nil)))))
      (pss_cons (ps_if (PW.pt (pw_or (pt_cmpR (op_eqDK K hr.units) (pv 4) (pe_lst pa_nil) (nomark _)) (pw_or (pt_cmpR (op_eqDK K hr.units) (pv 5) (pe_lst pa_nil) (nomark _)) (pw_or (pt_cmpR op_gt (pe_callB call_abs (by rfl) T.z_abs (by decide +kernel) (pa_cons (pe_op op_sub (pe_callB (len_K K) (by rfl) T.z_len PySem.boot_len (pa_cons (pv 4) pa_nil)) (pe_callB (len_K K) (by rfl) T.z_len PySem.boot_len (pa_cons (pv 5) pa_nil))) pa_nil)) pe_int (nomark _)) (pw_or1 (pt_cmpR op_lt (pe_lenSetAK K (by rfl) T.z_len (by rfl) T.z_set (pe_op op_cat (pv 4) (pv 5))) (pe_callB (len_K K) (by rfl) T.z_len PySem.boot_len (pa_cons (pe_op op_cat (pv 4) (pv 5)) pa_nil)) (nomark _))))))) (pss_one (ps_ret (pe_lst pa_nil))) pss_nil)
      (pss_one (ps_set (i := 3) sc_l_tree_numbers.nd rfl (.inl rfl) (pe_op op_cat (pv 4) (pv 5)))))))))
      (pss_one (ps_ret (pe_ifExp (pt_val (pe_call (okd_l_is_box T (k := k)) hr (by rfl) T.g_l_is_box T.F_l_is_box.kp T.b_l_is_box .nil pass0 (pa_cons (pe_ix (ix_tupK K) (pv 2) pe_int (fun _ _ => rfl)) (pa_cons (pe_lc (own := [("_law_number", 6)]) (by rfl) sc_l_tree_numbers.nd (pi_listK K (pv 3)) (blkOk_by (own := [("_law_number", 6)]) (N := N_l_tree_numbers) (sc := defScope s_l_tree_numbers) (by decide +kernel)) (fun _ _ _ _ _ => (pg_name (i := 6) sc_l_tree_numbers.nd rfl (.inl rfl))) (fun _ _ _ _ _ => pts_nil) (fun _ _ _ _ _ => (pe_ix (ix_listK K) (pv 0) (pv 6) (fun _ _ => rfl)))) pa_nil)))) (pv 3) (pe_lst pa_nil)))))),
      (ss_seq (ss_if (st_or (st_not (st_B (se_isi (sv 2)))) (st_or (st_test (se_op sr_bool (se_cb sc_len (sa_cons (sv 2) sa_nil)) se_int)) (st_not (st_B (se_isi (se_op sr_ixT (sv 2) se_int)))))) (ss_retSN (sn_lst sa_nil)) ss_next)
      (ss_cut (ss_if (st_test (se_op sr_eqD (se_op sr_ixT (sv 2) se_int) se_str)) (ss_seq (ss_if (st_or (st_test (se_op sr_neI (se_cb sc_len (sa_cons (sv 2) sa_nil)) se_int)) (st_or (st_not (st_B (se_isi (se_op sr_ixT (sv 2) se_int)))) (st_not (st_test (se_chain sr_bool sr_bool se_int (se_cb sc_len (sa_cons (se_op sr_ixT (sv 2) se_int) sa_nil)) (sv 1)))))) (ss_retSN (sn_lst sa_nil)) ss_next)
      (ss_seq (ss_if (st_not (st_B (se_call (sa_cons (sv 0) (sa_cons (se_op sr_ixT (sv 2) se_int) sa_nil))))) (ss_retSN (sn_lst sa_nil)) ss_next)
      (ss_asg (SN.se (sn_cb scn_list (sa_cons (se_op sr_ixT (sv 2) se_int) sa_nil))) sg_name))) (ss_seq (ss_if (st_or (st_test (se_op sr_neD (se_op sr_ixT (sv 2) se_int) se_str)) (st_test (se_op sr_neI (se_cb sc_len (sa_cons (sv 2) sa_nil)) se_int))) (ss_retSN (sn_lst sa_nil)) ss_next)
      (ss_seq (ss_asg (se_call (sa_cons (sv 0) (sa_cons (sv 1) (sa_cons (se_op sr_ixT (sv 2) se_int) sa_nil)))) sg_name)
      (ss_seq (ss_asg (se_call (sa_cons (sv 0) (sa_cons (sv 1) (sa_cons (se_op sr_ixT (sv 2) se_int) sa_nil)))) sg_name)
      (ss_seq (ss_if (st_or (st_test (se_op sr_eqD (sv 4) (SN.se (sn_lst sa_nil)))) (st_or (st_test (se_op sr_eqD (sv 5) (SN.se (sn_lst sa_nil)))) (st_or (st_test (se_op sr_bool (se_cb sc_abs (sa_cons (se_op sr_int (se_cb sc_len (sa_cons (sv 4) sa_nil)) (se_cb sc_len (sa_cons (sv 5) sa_nil))) sa_nil)) se_int)) (st_test (se_op sr_bool (se_lenSetA (SN.se (sn_op srn_cat (sv 4) (sv 5)))) (se_cb sc_len (sa_cons (SN.se (sn_op srn_cat (sv 4) (sv 5))) sa_nil))))))) (ss_retSN (sn_lst sa_nil)) ss_next)
      (ss_asg (SN.se (sn_op srn_cat (sv 4) (sv 5))) sg_name))))))
      (ss_ret (se_if (st_B (se_call (sa_cons (se_op sr_ixT (sv 2) se_int) (sa_cons (SN.se (sn_lc (si_list (sv 3)) sg_name st_yesD (se_op sr_ixL (sv 0) (sv 6)) (by decide))) sa_nil)))) (sv 3) (SN.se (sn_lst sa_nil))))))⟩) (fun ds n Q ⟨_, _, _, _, e, _⟩ => by rw [e]; rfl) fun ds n Q ⟨cs, mo, d, wd, e, c1, w0, w1, ok, sd, f5, q⟩ => ?_
  subst e
  have sh4 : Sh (.str "leaf") 0 := ⟨by decide +kernel, by rw [PyData.depth]; omega, by rw [wide]⟩
  have sh5 : Sh (.str "node") 0 := ⟨by decide +kernel, by rw [PyData.depth]; omega, by rw [wide]⟩
  have no : NoT cs wd mo d → Q (.list []) n := fun h => q [] (.inr ⟨rfl, h⟩)
  obtain ⟨b, hb, ib⟩ := isi_tup sd
  refine ⟨_, rfl, b, hb, _, rfl, ?_⟩
  cases b with
  | false => exact iteT ⟨_, rfl, by decide, no (NoT.other fun h => by have := ib.mpr h; cases this)⟩
  | true =>
  obtain ⟨xs, rfl⟩ := ib.mp rfl
  obtain ⟨shx, lx⟩ := sd.tup1
  refine iteF ⟨_, rfl, _, rfl, xs, .inr rfl, _, _, rfl, rfl, _, rfl, ite2 (fun h => ?_) (fun h => ?_)⟩
  · have h := of_decide_eq_true h
    exact ⟨_, rfl, by decide, no (NoT.len (by omega) (by omega))⟩
  have h := of_decide_eq_false (Bool.eq_false_iff.mpr h)
  obtain ⟨u, bx, x, rest, rfl⟩ : ∃ u v x r, xs = u :: v :: x :: r := by
    match xs, h with
    | u :: v :: x :: r, _ => exact ⟨u, v, x, r, rfl⟩
    | [], h => simp at h
    | [_], h => simp at h
    | [_, _], h => simp at h
  have su := shx u (by simp)
  obtain ⟨c, hc, ic⟩ := isi_str su
  refine ⟨_, rfl, _, _, _, rfl, rfl, at0 (by decide) rfl, c, hc, _, rfl, ?_⟩
  cases c with
  | false =>
    refine iteT ⟨_, rfl, by decide, no fun t et _ => ?_⟩
    cases t with
    | leaf lo hi ns => have := ic.mpr ⟨_, (leaf_nums et).1⟩; cases this
    | node lo hi a b => have := ic.mpr ⟨_, (node_parts et).1⟩; cases this
  | true =>
  refine iteF ⟨fun δ j => ∃ (ms : List Int) (x4 x5 x6 : Sl), δ = [.d (eP cs), .d (.int mo), .d (.tuple (u :: bx :: x :: rest)), .d (eI ms), x4, x5, x6] ∧ j = n ∧ Fnd cs wd mo (.tuple (u :: bx :: x :: rest)) ms, ?_, fun δ j ⟨ms, x4, x5, x6, eδ, ej, w', bx', rest', e', p0, nd, ni, hy, hn⟩ => ?_⟩
  · refine ⟨_, rfl, _, _, _, rfl, rfl, at0 (by decide) rfl, su.sh (by omega), sh4.sh (by decide), _, congrArg PyData.bool eqv_strB, ite2 (fun h => ?_) (fun h => ?_)⟩
    · have hu := cdec_iff.mp h
      subst hu
      refine ⟨_, rfl, _, rfl, _, .inr rfl, _, _, rfl, rfl, _, rfl, ite2 (fun h => ?_) (fun h => ?_)⟩
      · have h := of_decide_eq_false (by simpa using h)
        refine ⟨_, rfl, by decide, no fun t et rt => ?_⟩
        cases t with
        | leaf lo hi ns => obtain ⟨_, _, g⟩ := leaf_nums et; injection g with _ g; rw [g] at h; exact h rfl
        | node lo hi a b => exact leaf_ne_node (node_parts et).1
      obtain rfl : rest = [] := by
        cases rest with
        | nil => rfl
        | cons y r => exact absurd (by simp; omega) h
      have sx := shx x (by simp)
      obtain ⟨e, he, ie⟩ := isi_tup sx
      refine ⟨_, rfl, _, _, _, rfl, rfl, at0 (by decide) rfl, e, he, _, rfl, ?_⟩
      have nl : (∀ ns, ¬ LfP cs mo x ns) → Q (.list []) n := fun h => no (NoT.leaf h)
      cases e with
      | false => exact iteT ⟨_, rfl, by decide, nl fun ns g => by have := ie.mpr ⟨_, g.1⟩; cases this⟩
      | true =>
      obtain ⟨ys, rfl⟩ := ie.mp rfl
      obtain ⟨shy, ly⟩ := sx.tup1
      refine iteF ⟨_, rfl, _, _, _, rfl, rfl, at0 (by decide) rfl, _, rfl, _, .inr rfl, _, _, rfl, rfl, _, rfl, ite2 (fun hp => ?_) (fun hp => ?_)⟩
      case _ =>
        have hp := of_decide_eq_true hp
        refine ⟨_, rfl, _, _, rfl, rfl, _, rfl, ite2 (fun hm => ?_) (fun hm => ?_)⟩
        · have hm : mo < (ys.length : Int) := by simpa using hm
          refine ⟨_, rfl, by decide, nl fun ns g => ?_⟩
          have e := g.1
          injection e with e
          rw [e, List.length_map] at hm
          have := g.2.2.1
          omega
        have hm : ((ys.length : Nat) : Int) ≤ mo := by simpa using hm
        refine ⟨_, rfl, _, rfl, _, _, _, rfl, rfl, at0 (by decide) rfl, cs, _, ys, rfl, .inr rfl, c1, ly, fun y hy => (shy y hy).mono (by omega), fun b hb => ⟨_, rfl, ?_⟩⟩
        cases b with
        | false =>
          refine iteT ⟨_, rfl, by decide, nl fun ns g => ?_⟩
          have e := g.1
          injection e with e
          have := hb.mpr ⟨ns, e, g.2.2.2⟩
          cases this
        | true =>
          obtain ⟨ns, e, np, ni⟩ := hb.mp rfl
          subst e
          rw [List.length_map] at hp hm
          exact iteF ⟨_, rfl, _, _, _, rfl, rfl, at0 (by decide) rfl, _, rfl, _, .inr rfl, ns, _, _, _, rfl, rfl, Fnd.leaf ⟨rfl, by omega, hm, np, ni⟩⟩
      case _ =>
        refine ⟨_, rfl, iteT ⟨_, rfl, by decide, nl fun ns g => ?_⟩⟩
        have e := g.1
        injection e with e
        have hp := of_decide_eq_false (Bool.eq_false_iff.mpr hp)
        rw [e, List.length_map] at hp
        have := g.2.1
        omega
    · have hu : u ≠ .str "leaf" := fun z => h (cdec_iff.mpr z)
      refine ⟨_, rfl, _, _, _, rfl, rfl, at0 (by decide) rfl, su.sh (by omega), sh5.sh (by decide), _, congrArg PyData.bool (congrArg not eqv_strB), ite2 (fun h2 => ?_) (fun h2 => ?_)⟩
      · refine ⟨_, rfl, by decide, no fun t et rt => ?_⟩
        have h2 : cdec (u = .str "node") = false := by simpa using h2
        cases t with
        | leaf lo hi ns => exact hu (leaf_nums et).1
        | node lo hi a b => rw [cdec_iff.mpr (node_parts et).1] at h2; cases h2
      have h2 : u = .str "node" := cdec_iff.mp (by simpa using h2)
      subst h2
      refine ⟨_, rfl, _, rfl, _, .inr rfl, _, _, rfl, rfl, _, rfl, ite2 (fun h => ?_) (fun h => ?_)⟩
      · have h : ¬ (rest.length : Int) + 1 + 1 + 1 = 4 := by simpa using h
        refine ⟨_, rfl, by decide, no fun t et rt => ?_⟩
        cases t with
        | leaf lo hi ns => exact leaf_ne_node (leaf_nums et).1.symm
        | node lo hi a b => obtain ⟨_, _, g⟩ := node_parts et; injection g with _ g; rw [g] at h; exact h rfl
      have h : (rest.length : Int) + 1 + 1 + 1 = 4 := by simpa using h
      obtain ⟨y, rfl⟩ : ∃ y, rest = [y] := by
        match rest, h with
        | [y], _ => exact ⟨y, rfl⟩
        | [], h => simp at h
        | _ :: _ :: _, h => simp at h; omega
      obtain ⟨g, eg, hs, _⟩ := sd.tupI
      subst eg
      have nl : (∀ a b, ¬ HvP cs wd mo x y a b) → Q (.list []) n := fun h => no (NoT.node h)
      refine ⟨_, rfl, _, rfl, _, rfl, _, _, _, rfl, rfl, at0 (by decide) rfl, cs, mo, x, wd, rfl, c1, w0, w1, ok, hs x (by simp), by omega, fun fs hf => ?_⟩
      refine ⟨_, rfl, _, rfl, _, rfl, _, _, _, rfl, rfl, at0 (by decide) rfl, cs, mo, y, wd, rfl, c1, w0, w1, ok, hs y (by simp), by omega, fun ss hss => ?_⟩
      have lf := hf.len
      have ls := hss.len
      refine ⟨_, rfl, _, rfl, by decide, shd_eI (by omega), rfl, _, congrArg PyData.bool eqv_nilI, ite2 (fun h => ?_) (fun h => ?_)⟩
      · have h := of_decide_eq_true h
        subst h
        exact ⟨_, rfl, by decide, nl fun a b g => hf.nil _ g.1 g.2.2.1⟩
      obtain ⟨ta, ea, ra, pf⟩ := hf.ne (of_decide_eq_false (Bool.eq_false_iff.mpr h))
      subst ea
      refine ⟨_, rfl, _, rfl, by decide, shd_eI (by omega), rfl, _, congrArg PyData.bool eqv_nilI, ite2 (fun h => ?_) (fun h => ?_)⟩
      · have h := of_decide_eq_true h
        subst h
        exact ⟨_, rfl, by decide, nl fun a b g => hss.nil _ g.2.1 g.2.2.2.1⟩
      obtain ⟨tb, eb, rb, ps⟩ := hss.ne (of_decide_eq_false (Bool.eq_false_iff.mpr h))
      subst eb
      have un : ∀ {a b}, HvP cs wd mo (eT ta) (eT tb) a b → a = ta ∧ b = tb := fun g => ⟨(eT_one g.1).symm, (eT_one g.2.1).symm⟩
      have lf2 := pf.length_eq
      have ls2 := ps.length_eq
      have pp : (fs ++ ss).Perm (ta.nums ++ tb.nums) := pf.append ps
      refine ⟨_, rfl, _, rfl, _, .inl rfl, _, rfl, _, rfl, _, .inl rfl, _, _, rfl, rfl, _, rfl, _, rfl, _, _, rfl, rfl, _, rfl, ite2 (fun h => ?_) (fun h => ?_)⟩
      · have h := of_decide_eq_true h
        rw [List.length_map, List.length_map] at h
        refine ⟨_, rfl, by decide, nl fun a b g => ?_⟩
        obtain ⟨e1, e2⟩ := un g
        obtain ⟨_, _, _, _, g1, g2, _⟩ := g
        rw [e1, e2] at g1 g2
        split at h <;> omega
      have h := of_decide_eq_false (Bool.eq_false_iff.mpr h)
      rw [List.length_map, List.length_map] at h
      have lmm : (fs.map PyData.int).length + (ss.map PyData.int).length ≤ 100000 := by rw [List.length_map, List.length_map]; omega
      have emm : PyData.list (fs.map PyData.int ++ ss.map PyData.int) = eI (fs ++ ss) := by unfold eI; rw [List.map_append]
      have lfs : (fs ++ ss).length = fs.length + ss.length := List.length_append
      refine ⟨_, rfl, _, rfl, _, _, rfl, rfl, lmm, fs ++ ss, emm, by omega, fun c hc1 hc2 => ?_⟩
      refine ⟨_, rfl, _, rfl, _, _, rfl, rfl, lmm, _, rfl, _, .inl rfl, _, _, rfl, rfl, _, rfl, ite2 (fun h3 => ?_) (fun h3 => ?_)⟩
      · have h3 := of_decide_eq_true h3
        rw [List.length_append, List.length_map, List.length_map] at h3
        refine ⟨_, rfl, by decide, nl fun a b g => ?_⟩
        obtain ⟨e1, e2⟩ := un g
        obtain ⟨_, _, _, _, _, _, g3⟩ := g
        rw [e1, e2] at g3
        have := hc2.mpr (pp.nodup_iff.mpr g3)
        omega
      have h3 := of_decide_eq_false (Bool.eq_false_iff.mpr h3)
      rw [List.length_append, List.length_map, List.length_map] at h3
      have nd : (fs ++ ss).Nodup := hc2.mp (by omega)
      refine ⟨_, rfl, _, rfl, _, _, rfl, rfl, lmm, fs ++ ss, .d (eI fs), .d (eI ss), .no, ?_, rfl, Fnd.node ⟨rfl, rfl, ra, rb, ?_, ?_, pp.nodup_iff.mp nd⟩ pp⟩
      · rw [← emm]
        rfl
      · split at h <;> omega
      · split at h <;> omega
  · subst eδ ej
    injection e' with e'
    injection e' with e1 e'
    injection e' with e2 e'
    subst e2
    have lm := nd_le nd ni
    have cok := colsAt_ok ok ni
    refine ⟨_, rfl, _, _, _, rfl, rfl, at0 (by decide) rfl, _, rfl, _, rfl, lcD (by rw [List.length_map]; omega) (fun i => (ms[i]?).map fun x => eC (cs.getD x.toNat [])) (fun i d Ky Kn ed ky kn => ?_) ?_⟩
    · obtain ⟨x, ex, rfl⟩ := mpG ed
      have hx := ni x (mem_i ex)
      exact ⟨_, rfl, _, rfl, _, _, _, rfl, rfl, cat_of hx.1 hx.2, ky _ (by rw [ex]; rfl)⟩
    rw [List.length_map, fmM, cat_cols]
    refine ⟨cs, ms, bx, wd, rfl, p0, by omega, fun x hx => (cok x hx).1, w1, (shx bx (by simp)).mono (by omega), fun b hb => ⟨_, rfl, ?_⟩⟩
    cases b with
    | false => exact iteF ⟨_, rfl, by decide, no (hn fun e => by have := hb.mpr e; cases this)⟩
    | true => exact iteT ⟨_, rfl, q ms (.inl (hy (hb.mp rfl)))⟩
theorem ltn_all (T : Tx K mg) {k : Nat} : ∀ f : Nat, FnOk P w K mg base CX0 (k + 5 + f) T.f_l_tree_numbers T.d_l_tree_numbers ["_law_palette_here", "_law_most", "_law_thing"] (spD (rLTNX f))
  | 0 => ltn_step T (f := 0) FnOk.no
  | f + 1 => by
    have h2 := ltn_step T (f := f + 1) (k := k + 1 + f) (by
      have := ltn_all T (k := k) f
      have e : k + 5 + f = k + 1 + f + 4 := by omega
      rw [e] at this
      exact this)
    have e : k + 1 + f + 5 = k + 5 + (f + 1) := by omega
    rw [e] at h2
    exact h2
theorem okd_l_tree_numbers (T : Tx K mg) {k : Nat} : FnOk P w K mg base CX0 (k + 25) T.f_l_tree_numbers T.d_l_tree_numbers ["_law_palette_here", "_law_most", "_law_thing"] (spD (rLTNX 20)) := ltn_all T (k := k) 20
theorem okd_l_tree_right (T : Tx K mg) {k : Nat} : FnOk P w K mg base CX0 (k + 26) T.f_l_tree_right T.d_l_tree_right ["_law_palette_here", "_law_most", "_law_thing"] (spD rIsTreeX) := by
  refine okD T.F_l_tree_right sc_l_tree_right _ (fun cdv A outer s H E hr => ⟨_, (pss_one (ps_ret (pe_cmpR (op_eqDK K hr.units) (pe_callB (cr_sortedIK K) (by rfl) T.z_sorted (by decide +kernel) (pa_cons (pe_call (okd_l_tree_numbers T (k := k)) hr (by rfl) T.g_l_tree_numbers T.F_l_tree_numbers.kp T.b_l_tree_numbers .nil pass0 (pa_cons (pv 0) (pa_cons (pv 1) (pa_cons (pv 2) pa_nil)))) pa_nil)) (pe_call (okn_l_all_of T (k := k + 24)) hr (by rfl) T.g_l_all_of T.F_l_all_of.kp T.b_l_all_of .nil pass0 (pa_cons (pv 0) pa_nil)) (nomark _)))),
      (ss_ret (se_op sr_eqD (SN.se (sn_cb scn_sortI (sa_cons (se_call (sa_cons (sv 0) (sa_cons (sv 1) (sa_cons (sv 2) sa_nil)))) sa_nil))) (SN.se (sn_call (sa_cons (sv 0) sa_nil)))))⟩) (fun ds n Q ⟨_, _, _, _, e, _⟩ => by rw [e]; rfl) fun ds n Q ⟨cs, mo, d, wd, e, c0, c1, w0, w1, ok, sd, q⟩ => ?_
  subst e
  refine ⟨_, rfl, _, rfl, _, rfl, cs, mo, d, wd, rfl, c1, w0, w1, ok, sd, by decide, fun ms hm => ⟨_, rfl, ms, rfl, fun ks pk sk => ⟨_, rfl, cs, rfl, c1, ?_⟩⟩⟩
  have lm := hm.len
  have lk := pk.length_eq
  refine ⟨shd_eI (by omega), shd_eI (by rw [allN_length]; omega), ?_⟩
  show Q (.bool (PyData.eqv (eI ks) (eI (allN cs.length)))) n
  rw [eqv_eI]
  exact q _ (hm.is c0 pk sk)
/-! ### trees made by draws -/
def rTM (f : Nat) : List Sl → Nat → DQ → Prop := fun ds n K => ∃ (cs : List (List Int)) (ns : List Int) (mo : Int) (wd : Nat), ds = [.l, .d (eP cs), .d (eI ns), .d (.int mo)] ∧ n + 4 * ns.length * (f + 1) < 1000000 ∧ cs.length ≤ 1000 ∧ 0 < wd ∧ wd ≤ 10 ∧ (∀ x ∈ cs, x.length = wd ∧ cIn 0 999 x) ∧ 0 < ns.length ∧ ns.length ≤ 2 ^ f ∧ ns.length ≤ 1000 ∧ (∀ x ∈ ns, 0 ≤ x ∧ x < (cs.length : Int)) ∧ 1 ≤ mo ∧ ns.Nodup ∧ ∀ (t : Tr) m, m ≤ n + 4 * ns.length * (f + 1) → RT cs wd mo t → t.dp ≤ f → t.nums.Perm ns → K (eT t) m
def rTMS : Nat → List Sl → Nat → DQ → Prop
  | 0 => fun _ _ _ => False
  | f + 1 => rTM f
set_option maxHeartbeats 1000000 in
theorem tm_step (T : Tx K mg) {f k : Nat} (GS : FnOk P w K mg base CX0 (k + 3) T.f_l_tree_made T.d_l_tree_made ["_law_left_here", "_law_palette_here", "_law_numbers", "_law_most"] (spD (rTMS f))) :
    FnOk P w K mg base CX0 (k + 4) T.f_l_tree_made T.d_l_tree_made ["_law_left_here", "_law_palette_here", "_law_numbers", "_law_most"] (spD (rTM f)) := by
  refine okD T.F_l_tree_made sc_l_tree_made _ (fun cdv A outer s H E hr => have hrS := hr; ⟨_, (pss_cons (ps_set (i := 4) sc_l_tree_made.nd rfl (.inl rfl) (pe_call (okd_l_box T (k := k + 2)) hr (by rfl) T.g_l_box T.F_l_box.kp T.b_l_box .nil pass0 (pa_cons (pe_lc (own := [("_law_number", 8)]) (by rfl) sc_l_tree_made.nd (pi_listK K (pv 2)) (blkOk_by (own := [("_law_number", 8)]) (N := N_l_tree_made) (sc := defScope s_l_tree_made) (by decide +kernel)) (fun _ _ _ _ _ => (pg_name (i := 8) sc_l_tree_made.nd rfl (.inl rfl))) (fun _ _ _ _ _ => pts_nil) (fun _ _ _ _ _ => (pe_ix (ix_listK K) (pv 1) (pv 8) (fun _ _ => rfl)))) pa_nil)))
      (Evl.pss_cut (ps_if (PW.pt (pw_or (pt_cmpR op_eq (pe_callB (len_K K) (by rfl) T.z_len PySem.boot_len (pa_cons (pv 2) pa_nil)) pe_int (nomark _)) (pw_or1 (PW.pt (pw_and (pt_cmpR op_le (pe_callB (len_K K) (by rfl) T.z_len PySem.boot_len (pa_cons (pv 2) pa_nil)) (pv 3) (nomark _)) (pw_and1 (pt_cmpR op_gt (pe_call (okd_l_pick T (k := k + 1)) hr (by rfl) T.g_l_pick T.F_l_pick.kp T.b_l_pick .nil pass0 (pa_cons (pv 0) (pa_cons pe_int pa_nil))) pe_int (nomark _)))))))) (pss_one (ps_ret (pe_tup (pa_cons pe_str (pa_cons (pv 4) (pa_cons (pe_callTy (tuple_K K) (by rfl) T.z_tuple (by decide +kernel) (pa_cons (pe_callB (cr_sortedIK K) (by rfl) T.z_sorted (by decide +kernel) (pa_cons (pv 2) pa_nil)) pa_nil)) pa_nil)))))) pss_nil)
      (pss_cons (ps_set (i := 5) sc_l_tree_made.nd rfl (.inl rfl) (pe_call (okn_l_shuffled T (k := k)) hr (by rfl) T.g_l_shuffled T.F_l_shuffled.kp T.b_l_shuffled .nil pass0 (pa_cons (pv 0) (pa_cons (pv 2) pa_nil))))
      (pss_cons (ps_set (i := 6) sc_l_tree_made.nd rfl (.inl rfl) (pe_op op_fdiv (pe_op op_add (pe_callB (len_K K) (by rfl) T.z_len PySem.boot_len (pa_cons (pv 5) pa_nil)) (pe_call (okd_l_pick T (k := k + 1)) hr (by rfl) T.g_l_pick T.F_l_pick.kp T.b_l_pick .nil pass0 (pa_cons (pv 0) (pa_cons pe_int pa_nil)))) pe_int))
      (pss_cons (ps_set (i := 7) sc_l_tree_made.nd rfl (.inl rfl) (pe_call GS hrS (by rfl) T.g_l_tree_made T.F_l_tree_made.kp T.b_l_tree_made .nil pass0 (pa_cons (pv 0) (pa_cons (pv 1) (pa_cons (pe_slice (sl_listK K) (pv 5) po_none (po_some (pv 6))) (pa_cons (pv 3) pa_nil))))))
      (pss_one (ps_ret (pe_tup (pa_cons pe_str (pa_cons (pv 4) (pa_cons (pv 7) (pa_cons (pe_call GS hrS (by rfl) T.g_l_tree_made T.F_l_tree_made.kp T.b_l_tree_made .nil pass0 (pa_cons (pv 0) (pa_cons (pv 1) (pa_cons (pe_slice (sl_listK K) (pv 5) (po_some (pv 6)) po_none) (pa_cons (pv 3) pa_nil))))) pa_nil)))))))))))),
      (ss_seq (ss_asg (se_call (sa_cons (SN.se (sn_lc (si_list (sv 2)) sg_name st_yesD (se_op sr_ixL (sv 1) (sv 8)) (by decide))) sa_nil)) sg_name)
      (ss_cut (ss_if (st_or (st_test (se_op sr_eqI (se_cb sc_len (sa_cons (sv 2) sa_nil)) se_int)) (st_and (st_test (se_op sr_bool (se_cb sc_len (sa_cons (sv 2) sa_nil)) (sv 3))) (st_test (se_op sr_bool (se_call (sa_consL (sa_cons se_int sa_nil))) se_int)))) (ss_ret (se_tup (sa_cons se_str (sa_cons (sv 4) (sa_cons (se_cb sc_tup (sa_cons (SN.se (sn_cb scn_sortI (sa_cons (sv 2) sa_nil))) sa_nil)) sa_nil))))) ss_next)
      (ss_seq (ss_asg (SN.se (sn_call (sa_consL (sa_cons (sv 2) sa_nil)))) sg_name)
      (ss_seq (ss_asg (se_op sr_intC (se_op sr_int (se_cb sc_len (sa_cons (sv 5) sa_nil)) (se_call (sa_consL (sa_cons se_int sa_nil)))) se_int) sg_name)
      (ss_seq (ss_asg (se_call (sa_consL (sa_cons (sv 1) (sa_cons (SN.se (sn_slL (sv 5) so_none (so_some (sv 6)))) (sa_cons (sv 3) sa_nil))))) sg_name)
      (ss_ret (se_tup (sa_cons se_str (sa_cons (sv 4) (sa_cons (sv 7) (sa_cons (se_call (sa_consL (sa_cons (sv 1) (sa_cons (SN.se (sn_slL (sv 5) (so_some (sv 6)) so_none)) (sa_cons (sv 3) sa_nil))))) sa_nil)))))))))))⟩) (fun ds n Q ⟨_, _, _, _, e, _⟩ => by rw [e]; rfl) fun ds n Q ⟨cs, ns, mo, wd, e, nb, c1, w0, w1, ok, n0, nf, n1, nin, mo1, nd, q⟩ => ?_
  subst e
  have cok := colsAt_ok ok nin
  have cl : (colsAt cs ns).length = ns.length := by unfold colsAt; rw [List.length_map]
  refine ⟨_, rfl, _, rfl, lcD (by rw [List.length_map]; omega) (fun i => (ns[i]?).map fun x => eC (cs.getD x.toNat [])) (fun i d Ky Kn ed ky kn => ?_) ?_⟩
  · obtain ⟨x, ex, rfl⟩ := mpG ed
    have hx := nin x (mem_i ex)
    exact ⟨_, rfl, _, rfl, _, _, _, rfl, rfl, cat_of hx.1 hx.2, ky _ (by rw [ex]; rfl)⟩
  rw [List.length_map, fmM, cat_cols]
  refine ⟨colsAt cs ns, wd, rfl, by omega, by omega, fun x hx => (cok x hx).1, by omega, fun lo hi bx => ?_⟩
  have hm : n + 4 * ns.length * (f + 1) = n + 4 * ns.length * f + 4 * ns.length := by rw [Nat.mul_succ]; omega
  have ebx : eBh lo hi = BxL cs wd ns := by
    obtain ⟨e1, e2⟩ := box_uni (by omega) bx
    rw [e1, e2]
    rfl
  have leaf : ∀ m, m ≤ n + 1 → ∀ ks : List Int, ks.Perm ns → ks.Pairwise (· ≤ ·) → ((ns.length : Nat) : Int) ≤ mo → Q (eT (.leaf lo hi ks)) m := fun m h ks pk sk lm => q _ m (by omega) (.leaf (by rw [pk.length_eq]; exact n0) (by rw [pk.length_eq]; exact lm) (lt_of_srt sk (pk.nodup_iff.mpr nd)) (fun x hx => nin x (pk.mem_iff.mp hx)) (ebx.trans (BxL_perm pk.symm n0))) (Nat.zero_le _) pk
  refine ⟨fun δ j => ∃ x5 x6 x7 x8 : Sl, δ = [.l, .d (eP cs), .d (eI ns), .d (.int mo), .d (.tuple [eC lo, eC hi]), x5, x6, x7, x8] ∧ j ≤ n + 1 ∧ 2 ≤ ns.length, ?_, fun δ j ⟨x5, x6, x7, x8, eδ, ej, n2⟩ => ?_⟩
  · refine ⟨_, rfl, _, rfl, _, .inl rfl, _, _, rfl, rfl, _, rfl, ite2 (fun h => ?_) (fun h => ?_)⟩
    · refine ⟨_, rfl, _, rfl, _, rfl, ns, rfl, fun ks pk sk => ⟨_, rfl, _, .inl rfl, _, rfl, by simp, leaf n (by omega) ks pk sk (by have h := of_decide_eq_true h; rw [List.length_map] at h; omega)⟩⟩
    · have n2 : 2 ≤ ns.length := by
        have h := of_decide_eq_false (Bool.eq_false_iff.mpr h)
        rw [List.length_map] at h
        omega
      refine ⟨_, rfl, _, rfl, _, .inl rfl, _, rfl, _, _, rfl, rfl, _, rfl, ite2 (fun hl => ?_) (fun h => ?_)⟩
      · refine ⟨rfl, 3, rfl, by omega, by decide, by decide, fun r r0 r1 => ⟨_, _, rfl, rfl, _, rfl, ite2 (fun h => ?_) (fun h => ?_)⟩⟩
        · refine ⟨_, rfl, _, rfl, _, rfl, ns, rfl, fun ks pk sk => ⟨_, rfl, _, .inl rfl, _, rfl, by simp, leaf _ (by omega) ks pk sk (by have h := of_decide_eq_true hl; rw [List.length_map] at h; omega)⟩⟩
        · exact ⟨_, _, _, _, rfl, by omega, n2⟩
      · exact ⟨_, _, _, _, rfl, by omega, n2⟩
  · subst eδ
    cases f with
    | zero => simp at nf; omega
    | succ f =>
      rw [Nat.pow_succ] at nf
      refine ⟨rfl, _, rfl, ns, rfl, by omega, n1, fun us m hmu pu => ?_⟩
      have lu := pu.length_eq
      have uin : ∀ x ∈ us, 0 ≤ x ∧ x < (cs.length : Int) := fun x hx => nin x (pu.mem_iff.mp hx)
      refine ⟨_, rfl, _, rfl, _, .inl rfl, rfl, 2, rfl, by omega, by decide, by decide, fun b b0 b1 => ⟨_, _, rfl, rfl, _, _, rfl, rfl, ⟨by decide, by decide⟩, ?_⟩⟩
      obtain ⟨v, hv⟩ : ∃ v : Nat, (((us.map PyData.int).length : Nat) + b : Int) / 2 = (v : Int) ∧ 1 ≤ v ∧ v < ns.length ∧ v ≤ 2 ^ f ∧ ns.length - v ≤ 2 ^ f ∧ v ≤ ns.length - v + 1 ∧ ns.length - v ≤ v + 1 := by
        rw [List.length_map, lu]
        exact ⟨(((ns.length : Int) + b) / 2).toNat, by omega, by omega, by omega, by omega, by omega, by omega, by omega⟩
      have ca : cutL (us.map PyData.int) none (some ((((us.map PyData.int).length : Nat) + b : Int) / 2)) = (us.take v).map .int := by
        rw [hv.1, cut_toV _ (by omega), Int.toNat_natCast, List.map_take]
      have cb : cutL (us.map PyData.int) (some ((((us.map PyData.int).length : Nat) + b : Int) / 2)) none = (us.drop v).map .int := by
        rw [hv.1, cut_fromV _ (by omega), Int.toNat_natCast, List.map_drop]
      have la : (us.take v).length = v := by rw [List.length_take]; omega
      have lb : (us.drop v).length = ns.length - v := by rw [List.length_drop]; omega
      have key : 4 * v * (f + 1) + 4 * (ns.length - v) * (f + 1) = 4 * ns.length * (f + 1) := by
        rw [← Nat.add_mul, ← Nat.mul_add]
        congr 2
        omega
      refine ⟨rfl, _, rfl, _, rfl, _, rfl, _, rfl, _, rfl, _, rfl, cs, us.take v, mo, wd, by rw [ca]; rfl, by rw [la]; omega, c1, w0, w1, ok, by omega, by omega, by omega, fun x hx => uin x (List.mem_of_mem_take hx), mo1, (List.take_sublist _ _).nodup (pu.nodup_iff.mpr nd), fun ta ma hma ha dta pa => ?_⟩
      rw [la] at hma
      refine ⟨_, rfl, _, rfl, rfl, _, rfl, _, rfl, _, rfl, _, rfl, _, rfl, _, rfl, cs, us.drop v, mo, wd, by rw [cb]; rfl, by rw [lb]; omega, c1, w0, w1, ok, by omega, by omega, by omega, fun x hx => uin x (List.mem_of_mem_drop hx), mo1, (List.drop_sublist _ _).nodup (pu.nodup_iff.mpr nd), fun tb mb hmb hb dtb pb => ?_⟩
      rw [lb] at hmb
      have pn : (ta.nums ++ tb.nums).Perm ns := by
        refine ((pa.append pb).trans ?_).trans pu
        rw [List.take_append_drop]
      have xa := pa.length_eq
      have xb := pb.length_eq
      exact ⟨_, rfl, by simp, q (.node lo hi ta tb) mb (by omega) (.node ha hb (by omega) (by omega) (pn.nodup_iff.mpr nd) (ebx.trans (BxL_perm pn.symm n0))) (by rw [Tr.dp]; omega) pn⟩
theorem tm_all (T : Tx K mg) {k : Nat} : ∀ f : Nat, FnOk P w K mg base CX0 (k + 4 + f) T.f_l_tree_made T.d_l_tree_made ["_law_left_here", "_law_palette_here", "_law_numbers", "_law_most"] (spD (rTM f))
  | 0 => tm_step T (f := 0) ⟨fun vs H Q E h => by
      obtain ⟨_, _, _, _, _, _, _, _, _, h, _⟩ := h
      exact h.elim, fun A outer s H args us vs Q E hr e0 hb r h => by
      obtain ⟨_, _, _, _, _, _, _, _, _, h, _⟩ := h
      exact h.elim⟩
  | f + 1 => (tm_step (k := k + 1 + f) T (f := f + 1) (by
      have := tm_all T (k := k) f
      have e : k + 1 + f + 3 = k + 4 + f := by omega
      rw [e]
      exact this)).mono (by omega)
theorem okd_l_tree_made (T : Tx K mg) {k : Nat} : FnOk P w K mg base CX0 (k + 10) T.f_l_tree_made T.d_l_tree_made ["_law_left_here", "_law_palette_here", "_law_numbers", "_law_most"] (spD (rTM 6)) := tm_all T (k := k) 6
theorem TrOk.nodeP {cs : List (List Int)} {wd : Nat} {lo hi ns : List Int} {a b : Tr} (h1 : TrOk cs wd a) (h2 : TrOk cs wd b) (hb : BoxAt (colsAt cs ns) wd lo hi) (hk : (a.nums ++ b.nums).Perm ns) : TrOk cs wd (.node lo hi a b) := .node h1 h2 (hb.perm (hk.symm.map _))
/-! ### trees with one uneven node -/
theorem RT.ok {cs : List (List Int)} {wd : Nat} {mo : Int} {t : Tr} (h : RT cs wd mo t) : TrOk cs wd t := by
  induction h with
  | leaf n0 n1 np ni hb =>
    obtain ⟨e1, e2⟩ := eBh_one hb
    rw [e1, e2]
    exact .leaf n0 ni (box_is (by unfold colsAt; rw [List.length_map]; exact n0))
  | node ha hb h1 h2 nd hx ih1 ih2 =>
    obtain ⟨e1, e2⟩ := eBh_one hx
    rw [e1, e2]
    have := ha.pos
    exact .node ih1 ih2 (box_is (by unfold colsAt; rw [List.length_map, List.length_append]; omega))
def rUn (f : Nat) : List Sl → Nat → DQ → Prop := fun ds n K => ∃ (cs : List (List Int)) (ns : List Int) (mo : Int) (wd : Nat), ds = [.l, .d (eP cs), .d (eI ns), .d (.int mo)] ∧ n + 30 * ns.length < 900000 ∧ cs.length ≤ 1000 ∧ 0 < wd ∧ wd ≤ 10 ∧ (∀ x ∈ cs, x.length = wd ∧ cIn 0 999 x) ∧ 4 ≤ ns.length ∧ ns.length ≤ 40 ∧ ns.length ≤ 7 * 2 ^ f ∧ (∀ x ∈ ns, 0 ≤ x ∧ x < (cs.length : Int)) ∧ 1 ≤ mo ∧ ns.Nodup ∧ ∀ (t : Tr) m, m ≤ n + 30 * ns.length → TrOk cs wd t → ¬ RT cs wd mo t → t.dp ≤ f + 7 → t.nums.Perm ns → K (eT t) m
def rUnS : Nat → List Sl → Nat → DQ → Prop
  | 0 => fun _ _ _ => False
  | f + 1 => rUn f
set_option maxHeartbeats 1000000 in
theorem un_step (T : Tx K mg) {f k : Nat} (GS : FnOk P w K mg base CX0 (k + 10) T.f_l_uneven T.d_l_uneven ["_law_left_here", "_law_palette_here", "_law_numbers", "_law_most"] (spD (rUnS f))) :
    FnOk P w K mg base CX0 (k + 11) T.f_l_uneven T.d_l_uneven ["_law_left_here", "_law_palette_here", "_law_numbers", "_law_most"] (spD (rUn f)) := by
  refine okD T.F_l_uneven sc_l_uneven _ (fun cdv A outer s H E hr => have hrS := hr; ⟨_, (pss_cons (ps_set (i := 4) sc_l_uneven.nd rfl (.inl rfl) (pe_op op_fdiv (pe_callB (len_K K) (by rfl) T.z_len PySem.boot_len (pa_cons (pv 2) pa_nil)) pe_int))
      (Evl.pss_cut (ps_if (PW.pt (pw_and (pt_cmpR op_gt (pv 4) pe_int (nomark _)) (pw_and1 (pt_cmpR op_eq (pe_call (okd_l_pick T (k := k + 8)) hr (by rfl) T.g_l_pick T.F_l_pick.kp T.b_l_pick .nil pass0 (pa_cons (pv 0) (pa_cons pe_int pa_nil))) pe_int (nomark _))))) (pss_cons (ps_set (i := 5) sc_l_uneven.nd rfl (.inl rfl) (pe_lst (pa_cons (pe_call (okd_l_tree_made T (k := k)) hr (by rfl) T.g_l_tree_made T.F_l_tree_made.kp T.b_l_tree_made .nil pass0 (pa_cons (pv 0) (pa_cons (pv 1) (pa_cons (pe_slice (sl_listK K) (pv 2) po_none (po_some (pv 4))) (pa_cons (pv 3) pa_nil))))) pa_nil)))
      (pss_one (ps_expr (pe_bm PySem.F.plainAttrs_list PySem.F.slot_list_append PySem.F.type_list_append mt_append (pv 5) (pa_cons (pe_call GS hrS (by rfl) T.g_l_uneven T.F_l_uneven.kp T.b_l_uneven .nil pass0 (pa_cons (pv 0) (pa_cons (pv 1) (pa_cons (pe_slice (sl_listK K) (pv 2) (po_some (pv 4)) po_none) (pa_cons (pv 3) pa_nil))))) pa_nil))))) (pss_cons (ps_set (i := 6) sc_l_uneven.nd rfl (.inl rfl) (pe_op op_add pe_int (pe_call (okd_l_pick T (k := k + 8)) hr (by rfl) T.g_l_pick T.F_l_pick.kp T.b_l_pick .nil pass0 (pa_cons (pv 0) (pa_cons (pe_op op_fdiv (pe_op op_sub (pe_callB (len_K K) (by rfl) T.z_len PySem.boot_len (pa_cons (pv 2) pa_nil)) pe_int) pe_int) pa_nil)))))
      (pss_one (ps_setLc (i := 5) (own := [("_law_some", 7)]) (by rfl) sc_l_uneven.nd rfl rfl (sw_true rfl rfl rfl (by decide +kernel)) (pi_tupK K (pe_tup (pa_cons (pe_slice (sl_listK K) (pv 2) po_none (po_some (pv 6))) (pa_cons (pe_slice (sl_listK K) (pv 2) (po_some (pv 6)) po_none) pa_nil)))) (blkOk_by (own := [("_law_some", 7)]) (N := N_l_uneven) (sc := defScope s_l_uneven) (by decide +kernel)) (fun _ _ _ _ _ => (pg_name (i := 7) sc_l_uneven.nd rfl (.inl rfl))) (fun _ _ _ _ _ => pts_nil) (fun _ _ _ _ _ => (pe_call (okd_l_tree_made T (k := k)) hr (by rfl) T.g_l_tree_made T.F_l_tree_made.kp T.b_l_tree_made .nil pass0 (pa_cons (pv 0) (pa_cons (pv 1) (pa_cons (pv 7) (pa_cons (pv 3) pa_nil))))))))))
      (Evl.pss_cut (ps_if (pt_cmpR op_eq (pe_call (okd_l_pick T (k := k + 8)) hr (by rfl) T.g_l_pick T.F_l_pick.kp T.b_l_pick .nil pass0 (pa_cons (pv 0) (pa_cons pe_int pa_nil))) pe_int (nomark _)) (pss_one (ps_expr (pe_bm0 PySem.F.plainAttrs_list PySem.F.slot_list_reverse PySem.F.type_list_reverse mt_reverse (pv 5)))) pss_nil)
      (pss_one (ps_ret (pe_tup (pa_cons pe_str (pa_cons (pe_call (okd_l_box T (k := k + 9)) hr (by rfl) T.g_l_box T.F_l_box.kp T.b_l_box .nil pass0 (pa_cons (pe_lc (own := [("_law_number", 8)]) (by rfl) sc_l_uneven.nd (pi_listK K (pv 2)) (blkOk_by (own := [("_law_number", 8)]) (N := N_l_uneven) (sc := defScope s_l_uneven) (by decide +kernel)) (fun _ _ _ _ _ => (pg_name (i := 8) sc_l_uneven.nd rfl (.inl rfl))) (fun _ _ _ _ _ => pts_nil) (fun _ _ _ _ _ => (pe_ix (ix_listK K) (pv 1) (pv 8) (fun _ _ => rfl)))) pa_nil)) (pa_cons (pe_ix (ix_listK K) (pv 5) pe_int (fun _ _ => rfl)) (pa_cons (pe_ix (ix_listK K) (pv 5) pe_int (fun _ _ => rfl)) pa_nil)))))))))),
      (ss_seq (ss_asg (se_op sr_intC (se_cb sc_len (sa_cons (sv 2) sa_nil)) se_int) sg_name)
      (ss_cut (ss_if (st_and (st_test (se_op sr_bool (sv 4) se_int)) (st_test (se_op sr_eqI (se_call (sa_consL (sa_cons se_int sa_nil))) se_int))) (ss_seq (ss_asgO (sn_lst (sa_cons (se_call (sa_consL (sa_cons (sv 1) (sa_cons (SN.se (sn_slL (sv 2) so_none (so_some (sv 4)))) (sa_cons (sv 3) sa_nil))))) sa_nil)))
      (ss_app (se_call (sa_consL (sa_cons (sv 1) (sa_cons (SN.se (sn_slL (sv 2) (so_some (sv 4)) so_none)) (sa_cons (sv 3) sa_nil))))))) (ss_seq (ss_asg (se_op sr_int se_int (se_call (sa_consL (sa_cons (se_op sr_intC (se_op sr_int (se_cb sc_len (sa_cons (sv 2) sa_nil)) se_int) se_int) sa_nil)))) sg_name)
      (ss_asgO (sn_lc (si_tup (se_tup (sa_cons (SN.se (sn_slL (sv 2) so_none (so_some (sv 6)))) (sa_cons (SN.se (sn_slL (sv 2) (so_some (sv 6)) so_none)) sa_nil)))) sg_name st_yesD (se_call (sa_consL (sa_cons (sv 1) (sa_cons (sv 7) (sa_cons (sv 3) sa_nil))))) (by decide)))))
      (ss_cut (ss_if (st_test (se_op sr_eqI (se_call (sa_consL (sa_cons se_int sa_nil))) se_int)) ss_revO ss_next)
      (ss_ret (se_tup (sa_cons se_str (sa_cons (se_call (sa_cons (SN.se (sn_lc (si_list (sv 2)) sg_name st_yesD (se_op sr_ixL (sv 1) (sv 8)) (by decide))) sa_nil)) (sa_cons (se_ixO se_int) (sa_cons (se_ixO se_int) sa_nil)))))))))⟩) (fun ds n Q ⟨_, _, _, _, e, _⟩ => by rw [e]; rfl) fun ds n Q ⟨cs, ns, mo, wd, e, nb, c1, w0, w1, ok, n4, n40, nf, nin, mo1, nd, q⟩ => ?_
  subst e
  have cok := colsAt_ok ok nin
  have cl : (colsAt cs ns).length = ns.length := by unfold colsAt; rw [List.length_map]
  refine ⟨_, rfl, _, rfl, _, .inl rfl, _, _, rfl, rfl, ⟨by decide, by decide⟩, ?_⟩
  obtain ⟨v, hv⟩ : ∃ v : Nat, (((ns.map PyData.int).length : Nat) : Int) / 2 = (v : Int) ∧ 2 * v ≤ ns.length ∧ ns.length ≤ 2 * v + 1 := ⟨ns.length / 2, by rw [List.length_map]; omega, by omega, by omega⟩
  dsimp only
  rw [hv.1]
  have cta : ∀ a : Nat, cutL (ns.map PyData.int) none (some (a : Int)) = (ns.take a).map .int := fun a => by rw [cut_toV _ (by omega), Int.toNat_natCast, List.map_take]
  have ctb : ∀ a : Nat, cutL (ns.map PyData.int) (some (a : Int)) none = (ns.drop a).map .int := fun a => by rw [cut_fromV _ (by omega), Int.toNat_natCast, List.map_drop]
  have la : ∀ a : Nat, a ≤ ns.length → (ns.take a).length = a := fun a h => by rw [List.length_take]; omega
  have lb : ∀ a : Nat, (ns.drop a).length = ns.length - a := fun a => by rw [List.length_drop]
  have ina : ∀ a : Nat, ∀ x ∈ ns.take a, 0 ≤ x ∧ x < (cs.length : Int) := fun a x hx => nin x (List.mem_of_mem_take hx)
  have inb : ∀ a : Nat, ∀ x ∈ ns.drop a, 0 ≤ x ∧ x < (cs.length : Int) := fun a x hx => nin x (List.mem_of_mem_drop hx)
  have nda : ∀ a : Nat, (ns.take a).Nodup := fun a => (List.take_sublist _ _).nodup nd
  have ndb : ∀ a : Nat, (ns.drop a).Nodup := fun a => (List.drop_sublist _ _).nodup nd
  have pp : ∀ {a : Nat} {ta tb : Tr}, ta.nums.Perm (ns.take a) → tb.nums.Perm (ns.drop a) → (ta.nums ++ tb.nums).Perm ns := fun {a ta tb} h1 h2 => by
    refine (h1.append h2).trans ?_
    rw [List.take_append_drop]
  refine ⟨fun δ j => ∃ (ta tb : Tr) (x6 x7 x8 : Sl), δ = [.l, .d (eP cs), .d (eI ns), .d (.int mo), .d (.int (v : Nat)), .o [eT ta, eT tb], x6, x7, x8] ∧ j + 1 ≤ n + 30 * ns.length ∧ TrOk cs wd ta ∧ TrOk cs wd tb ∧ ta.dp ≤ f + 6 ∧ tb.dp ≤ f + 6 ∧ (ta.nums ++ tb.nums).Perm ns ∧ ¬ (RT cs wd mo ta ∧ RT cs wd mo tb ∧ ta.nums.length ≤ tb.nums.length + 1 ∧ tb.nums.length ≤ ta.nums.length + 1), ?_, fun δ j ⟨ta, tb, x6, x7, x8, eδ, ej, oa, ob, da, db, pn, bad⟩ => ?_⟩
  · have other : ∀ j, j ≤ n + 1 → fSeq
                  (fAsg
                    (fOp (rdI fun i j => PyData.int (i + j)) (fC (PyData.int 1))
                      (fCall rPick
                        (fConsL 0
                          (fCons
                            (fOp (rdC CDiv fun i j => PyData.int (i / j))
                              (fOp (rdI fun i j => PyData.int (i - j)) (fCB rdLen (fCons (fVar 2) fNil))
                                (fC (PyData.int 2)))
                              (fC (PyData.int 2)))
                            fNil))))
                    (gdName 6))
                  (fAsgO 5
                    (fLc
                      (fiT
                        (fTup
                          (fCons (fNw (fSlL (fVar 2) fNoPart (fPart (fVar 6))))
                            (fCons (fNw (fSlL (fVar 2) (fPart (fVar 6)) fNoPart)) fNil))))
                      (gdName 7) fYes (fCall (rTM 6) (fConsL 0 (fCons (fVar 1) (fCons (fVar 7) (fCons (fVar 3) fNil)))))
                      (List.map (fun x => x.snd) [(("_law_some" : Str), 7)]))) { nx := fun δ j => ∃ (ta tb : Tr) (x6 x7 x8 : Sl), δ = [.l, .d (eP cs), .d (eI ns), .d (.int mo), .d (.int (v : Nat)), .o [eT ta, eT tb], x6, x7, x8] ∧ j + 1 ≤ n + 30 * ns.length ∧ TrOk cs wd ta ∧ TrOk cs wd tb ∧ ta.dp ≤ f + 6 ∧ tb.dp ≤ f + 6 ∧ (ta.nums ++ tb.nums).Perm ns ∧ ¬ (RT cs wd mo ta ∧ RT cs wd mo tb ∧ ta.nums.length ≤ tb.nums.length + 1 ∧ tb.nums.length ≤ ta.nums.length + 1), rt := Q, rn := fun xs m => Q (PyData.list xs) m } [.l, .d (eP cs), .d (eI ns), .d (.int mo), .d (.int (v : Nat)), .no, .no, .no, .no] j := fun j hj => by
      refine ⟨rfl, _, rfl, _, rfl, _, .inl rfl, _, _, rfl, rfl, _, _, rfl, rfl, ⟨by decide, by decide⟩, _, rfl, by omega, ?_, ?_, fun r r0 r1 => ⟨_, _, rfl, rfl, ?_⟩⟩
      · rw [List.length_map]; omega
      · rw [List.length_map]; omega
      rw [List.length_map] at r1
      obtain ⟨a, ea, a1, a2⟩ : ∃ a : Nat, 1 + r = (a : Int) ∧ 1 ≤ a ∧ 2 * a + 2 ≤ ns.length := ⟨(1 + r).toNat, by omega, by omega, by omega⟩
      dsimp only
      rw [ea]
      refine ⟨_, rfl, _, rfl, _, rfl, _, rfl, _, rfl, _, rfl, _, rfl, _, rfl, _, rfl, by simp, _, rfl, by simp, ?_⟩
      rw [cta, ctb]
      refine ⟨fun i acc j' => (i = 0 ∧ acc = [] ∧ j' = j + 1) ∨ (∃ ta, i = 1 ∧ acc = [eT ta] ∧ j' ≤ j + 1 + 28 * a ∧ RT cs wd mo ta ∧ ta.dp ≤ 6 ∧ ta.nums.Perm (ns.take a)) ∨ (∃ ta tb, i = 2 ∧ acc = [eT ta, eT tb] ∧ j' ≤ j + 1 + 28 * a + 28 * (ns.length - a) ∧ RT cs wd mo ta ∧ RT cs wd mo tb ∧ ta.dp ≤ 6 ∧ tb.dp ≤ 6 ∧ ta.nums.Perm (ns.take a) ∧ tb.nums.Perm (ns.drop a)), .inl ⟨rfl, rfl, rfl⟩, fun i d acc j' ed h => ?_, fun acc j' h => ?_⟩
      · rcases h with ⟨rfl, rfl, ej⟩ | ⟨ta, rfl, rfl, ej, ra, da, pa⟩ | ⟨ta, tb, rfl, rfl, _⟩
        · cases ed
          refine ⟨rfl, _, rfl, _, rfl, _, rfl, cs, ns.take a, mo, wd, rfl, by rw [la a (by omega)]; omega, c1, w0, w1, ok, by rw [la a (by omega)]; omega, by rw [la a (by omega)]; omega, by rw [la a (by omega)]; omega, ina a, mo1, nda a, fun ta ma hma ha da pa => ?_⟩
          rw [la a (by omega)] at hma
          exact .inr (.inl ⟨ta, rfl, rfl, by omega, ha, da, pa⟩)
        · cases ed
          refine ⟨rfl, _, rfl, _, rfl, _, rfl, cs, ns.drop a, mo, wd, rfl, by rw [lb]; omega, c1, w0, w1, ok, by rw [lb]; omega, by rw [lb]; omega, by rw [lb]; omega, inb a, mo1, ndb a, fun tb mb hmb hb db pb => ?_⟩
          rw [lb] at hmb
          exact .inr (.inr ⟨ta, tb, rfl, rfl, by omega, ra, hb, da, db, pa, pb⟩)
        · cases ed
      · rcases h with ⟨h, _⟩ | ⟨ta, h, _⟩ | ⟨ta, tb, _, rfl, ej, ra, rb, da, db, pa, pb⟩
        · cases h
        · cases h
        have xa := pa.length_eq
        have xb := pb.length_eq
        rw [la a (by omega)] at xa
        rw [lb] at xb
        exact ⟨ta, tb, _, _, _, rfl, by omega, ra.ok, rb.ok, by omega, by omega, pp pa pb, fun z => by omega⟩
    refine ⟨_, rfl, _, _, rfl, rfl, _, rfl, ite2 (fun h => ?_) (fun h => ?_)⟩
    · have h := of_decide_eq_true h
      refine ⟨rfl, 2, rfl, by omega, by decide, by decide, fun r r0 r1 => ⟨_, _, rfl, rfl, _, rfl, ite2 (fun hr => ?_) (fun hr => ?_)⟩⟩
      · cases f with
        | zero => simp at nf; omega
        | succ f =>
        rw [Nat.pow_succ] at nf
        refine ⟨rfl, _, rfl, _, rfl, _, rfl, _, rfl, _, rfl, _, rfl, cs, ns.take v, mo, wd, by rw [cta]; rfl, by rw [la v (by omega)]; omega, c1, w0, w1, ok, by rw [la v (by omega)]; omega, by rw [la v (by omega)]; omega, by rw [la v (by omega)]; omega, ina v, mo1, nda v, fun ta ma hma ha da pa => ?_⟩
        rw [la v (by omega)] at hma
        refine ⟨_, rfl, by simp, _, rfl, by simp, rfl, _, rfl, _, rfl, _, rfl, _, rfl, _, rfl, _, rfl, cs, ns.drop v, mo, wd, by rw [ctb]; rfl, by rw [lb]; omega, c1, w0, w1, ok, by rw [lb]; omega, by rw [lb]; omega, by rw [lb]; omega, inb v, mo1, ndb v, fun tb mb hmb hb nb' db pb => ?_⟩
        rw [lb] at hmb
        exact ⟨ta, tb, _, _, _, rfl, by omega, ha.ok, hb, by omega, by omega, pp pa pb, fun z => nb' z.2.1⟩
      · exact other _ (by omega)
    · exact other _ (by omega)
  · subst eδ
    have fin : ∀ (ta tb : Tr) (x6 x7 x8 : Sl) (j : Nat), j ≤ n + 30 * ns.length → TrOk cs wd ta → TrOk cs wd tb → ta.dp ≤ f + 6 → tb.dp ≤ f + 6 → (ta.nums ++ tb.nums).Perm ns → ¬ (RT cs wd mo ta ∧ RT cs wd mo tb ∧ ta.nums.length ≤ tb.nums.length + 1 ∧ tb.nums.length ≤ ta.nums.length + 1) → ∀ lo hi, BoxAt (colsAt cs ns) wd lo hi → Q (eT (.node lo hi ta tb)) j := fun ta tb x6 x7 x8 j ej oa ob da db pn bad lo hi bx => q _ j ej (TrOk.nodeP oa ob bx pn) (fun z => by
      cases z with
      | node ra rb h1 h2 _ _ => exact bad ⟨ra, rb, h1, h2⟩) (by rw [Tr.dp]; omega) pn
    refine ⟨fun δ j => ∃ (ta tb : Tr) (x6 x7 x8 : Sl), δ = [.l, .d (eP cs), .d (eI ns), .d (.int mo), .d (.int (v : Nat)), .o [eT ta, eT tb], x6, x7, x8] ∧ j ≤ n + 30 * ns.length ∧ TrOk cs wd ta ∧ TrOk cs wd tb ∧ ta.dp ≤ f + 6 ∧ tb.dp ≤ f + 6 ∧ (ta.nums ++ tb.nums).Perm ns ∧ ¬ (RT cs wd mo ta ∧ RT cs wd mo tb ∧ ta.nums.length ≤ tb.nums.length + 1 ∧ tb.nums.length ≤ ta.nums.length + 1), ?_, fun δ j ⟨ta, tb, x6, x7, x8, eδ, ej, oa, ob, da, db, pn, bad⟩ => ?_⟩
    · refine ⟨rfl, 2, rfl, by omega, by decide, by decide, fun r r0 r1 => ⟨_, _, rfl, rfl, _, rfl, ite2 (fun hr => ?_) (fun hr => ?_)⟩⟩
      · exact ⟨_, rfl, tb, ta, _, _, _, rfl, by omega, ob, oa, db, da, List.perm_append_comm.trans pn, fun z => bad ⟨z.2.1, z.1, z.2.2.2, z.2.2.1⟩⟩
      · exact ⟨ta, tb, _, _, _, rfl, by omega, oa, ob, da, db, pn, bad⟩
    subst eδ
    refine ⟨_, rfl, _, rfl, lcD (by rw [List.length_map]; omega) (fun i => (ns[i]?).map fun x => eC (cs.getD x.toNat [])) (fun i d Ky Kn ed ky kn => ?_) ?_⟩
    · obtain ⟨x, ex, rfl⟩ := mpG ed
      have hx := nin x (mem_i ex)
      exact ⟨_, rfl, _, rfl, _, _, _, rfl, rfl, cat_of hx.1 hx.2, ky _ (by rw [ex]; rfl)⟩
    rw [List.length_map, fmM, cat_cols]
    refine ⟨colsAt cs ns, wd, rfl, by omega, by omega, fun x hx => (cok x hx).1, by omega, fun lo hi bx => ?_⟩
    exact ⟨_, rfl, _, _, rfl, rfl, _, rfl, _, _, rfl, rfl, _, rfl, by simp, fin ta tb x6 x7 x8 j ej oa ob da db pn bad lo hi bx⟩
theorem un_all (T : Tx K mg) {k : Nat} : ∀ f : Nat, FnOk P w K mg base CX0 (k + 11 + f) T.f_l_uneven T.d_l_uneven ["_law_left_here", "_law_palette_here", "_law_numbers", "_law_most"] (spD (rUn f))
  | 0 => un_step T (f := 0) FnOk.no
  | f + 1 => (un_step (k := k + 1 + f) T (f := f + 1) (by
      have := un_all T (k := k) f
      have e : k + 1 + f + 10 = k + 11 + f := by omega
      rw [e]
      exact this)).mono (by omega)
theorem okd_l_uneven (T : Tx K mg) {k : Nat} : FnOk P w K mg base CX0 (k + 20) T.f_l_uneven T.d_l_uneven ["_law_left_here", "_law_palette_here", "_law_numbers", "_law_most"] (spD (rUn 3)) := (un_all T (k := k) 3).mono (by omega)
/-! ### how long the text of a tame thing is -/
mutual
def tw : PyData → Nat
  | .none | .bool _ => 10
  | .int _ => 60
  | .str x => 10 * x.length + 2
  | .list xs | .tuple xs => twA xs + 3
  | .dict _ => 0
def twA : List PyData → Nat
  | [] => 0
  | x :: xs => tw x + 2 + twA xs
end
theorem twA_app (xs ys : List PyData) : twA (xs ++ ys) = twA xs + twA ys := by
  induction xs with
  | nil => simp [twA]
  | cons x t ih => rw [List.cons_append, twA, twA, ih]; omega
theorem twA_ints (ns : List Int) : twA (ns.map PyData.int) = 62 * ns.length := by
  induction ns with
  | nil => rfl
  | cons x t ih => rw [List.map_cons, twA, tw, ih, List.length_cons]; omega
theorem twA_rev (xs : List PyData) : twA xs.reverse = twA xs := by
  induction xs with
  | nil => rfl
  | cons x t ih => rw [List.reverse_cons, twA_app, ih, twA, twA, twA]; omega
theorem twA_take (xs : List PyData) (n : Nat) : twA (xs.take n) ≤ twA xs := by
  have := twA_app (xs.take n) (xs.drop n)
  rw [List.take_append_drop] at this
  omega
theorem twA_drop (xs : List PyData) (n : Nat) : twA (xs.drop n) ≤ twA xs := by
  have := twA_app (xs.take n) (xs.drop n)
  rw [List.take_append_drop] at this
  omega
theorem twA_cut (xs : List PyData) (a b : Option Int) : twA (cutL xs a b) ≤ twA xs := Nat.le_trans (twA_take _ _) (twA_drop _ _)
theorem twA_le {n : Nat} {xs : List PyData} (h : ∀ d ∈ xs, tw d ≤ n) : twA xs ≤ (n + 2) * xs.length := by
  induction xs with
  | nil => exact Nat.zero_le _
  | cons x t ih =>
    rw [twA, List.length_cons, Nat.mul_succ]
    have := ih fun d hd => h d (List.mem_cons_of_mem _ hd)
    have := h x (List.mem_cons_self ..)
    omega
theorem shw_tws {xs : List PyData} (h : ∀ d ∈ xs, Shw d (tw d)) : PyData.showableAll xs = true ∧ PyData.hasDictAll xs = false ∧ ((PyData.shownAll xs).map (fun x => x.length)).sum + 2 * xs.length ≤ twA xs ∧ (PyData.shownAll xs).length = xs.length := by
  induction xs with
  | nil => exact ⟨rfl, rfl, Nat.le_refl _, rfl⟩
  | cons x t ih =>
    obtain ⟨h1, h2, h3, h4⟩ := ih fun d hd => h d (List.mem_cons_of_mem _ hd)
    have g := h x (List.mem_cons_self ..)
    refine ⟨by rw [PyData.showableAll, g.a, h1]; rfl, by rw [PyData.hasDictAll, g.b, h2]; rfl, ?_, by rw [PyData.shownAll, List.length_cons, h4, List.length_cons]⟩
    rw [PyData.shownAll, List.map_cons, List.sum_cons, twA, List.length_cons]
    have := g.c
    omega
theorem Tam.shw {k : Nat} {d : PyData} (h : Tam k d) : Shw d (tw d) := by
  induction h with
  | none => exact ⟨rfl, rfl, by decide +kernel⟩
  | bool b => exact ⟨rfl, rfl, by cases b <;> decide +kernel⟩
  | int h1 h2 => exact shw_int (by omega)
  | str h =>
    have h1 := h.1
    rw [PyData.canLay0] at h1
    unfold PyData.strOk at h1
    rw [Array.all_eq_true_iff_forall_mem] at h1
    have hall : ∀ c ∈ (_ : Str).cps.toList, c < 16 ^ 8 := fun c hc => by
      have := of_decide_eq_true (h1 c (Array.mem_toList_iff.mp hc))
      omega
    exact ⟨rfl, rfl, by rw [PyData.shown, tw]; exact StrLaws.reprText_len _ hall⟩
  | list l h ih =>
    rename_i kk xs
    obtain ⟨h1, h2, h3, h4⟩ := shw_tws ih
    refine ⟨by rw [PyData.showable]; exact h1, by rw [PyData.hasDict]; exact h2, ?_⟩
    rw [PyData.shown, tw]
    have := listText_len_le (PyData.shownAll xs)
    rw [h4] at this
    omega
  | tuple l h ih =>
    rename_i kk xs
    obtain ⟨h1, h2, h3, h4⟩ := shw_tws ih
    refine ⟨by rw [PyData.showable]; exact h1, by rw [PyData.hasDict]; exact h2, ?_⟩
    rw [PyData.shown, tw]
    have := tupleText_len_le (PyData.shownAll xs)
    rw [h4] at this
    omega
/-! ### a box with one number otherwise -/
theorem tamTup {k : Nat} {xs : List PyData} (l : xs.length ≤ 100) (h : ∀ d ∈ xs, Tam k d) : Tam (k + 1) (.tuple xs) := .tuple l h
theorem tam2 {k : Nat} {a b : PyData} (h1 : Tam k a) (h2 : Tam k b) : Tam (k + 1) (.tuple [a, b]) := .tuple (by simp) fun d hd => by
  simp only [List.mem_cons, List.not_mem_nil, or_false] at hd
  rcases hd with rfl | rfl
  · exact h1
  · exact h2
theorem tam1 {k : Nat} {a : PyData} (h1 : Tam k a) : Tam (k + 1) (.tuple [a]) := .tuple (by simp) fun d hd => by rw [List.mem_singleton.mp hd]; exact h1
theorem tamI {lo : List Int} {a b : Int} (h : cIn a b lo) (ha : -1000000 ≤ a) (hb : b ≤ 1000000) : ∀ d ∈ lo.map PyData.int, Tam 1 d := fun d hd => by
  obtain ⟨x, hx, rfl⟩ := List.mem_map.mp hd
  have := h x hx
  exact .int (by omega) (by omega)
theorem tamA {k : Nat} {xs ys : List PyData} (h1 : ∀ d ∈ xs, Tam k d) (h2 : ∀ d ∈ ys, Tam k d) : ∀ d ∈ xs ++ ys, Tam k d := fun d hd => (List.mem_append.mp hd).elim (h1 d) (h2 d)
theorem at_in23 {lo : List Int} {r : Int} (h0 : 0 ≤ r) (h1 : r < (lo.length : Int)) : ∃ x ∈ lo, atI (lo.map PyData.int) r = some (.int x) := by
  have h : r.toNat < lo.length := by omega
  exact ⟨lo[r.toNat], List.getElem_mem h, at0 h0 (by rw [List.getElem?_map, List.getElem?_eq_getElem h]; rfl)⟩
theorem at_mem {xs : List PyData} {r : Int} (h0 : 0 ≤ r) (h1 : r < (xs.length : Int)) : ∃ d ∈ xs, atI xs r = some d := by
  have h : r.toNat < xs.length := by omega
  exact ⟨xs[r.toNat], List.getElem_mem h, at0 h0 (List.getElem?_eq_getElem h)⟩
def rGr : List Sl → Nat → DQ → Prop := fun ds n K => ∃ (lo hi : List Int) (wd : Nat), ds = [.l, .d (eBh lo hi)] ∧ n < 1000000 ∧ lo.length = wd ∧ hi.length = wd ∧ 0 < wd ∧ wd ≤ 10 ∧ cIn 0 999 lo ∧ cIn 0 999 hi ∧ ∀ d, Tam 3 d → tw d ≤ 2000 → K d (n + 3)
set_option maxHeartbeats 1000000 in
theorem okd_l_greater (T : Tx K mg) {k : Nat} : FnOk P w K mg base CX0 (k + 3) T.f_l_greater T.d_l_greater ["_law_left_here", "_law_box_here"] (spD rGr) := by
  refine okD T.F_l_greater sc_l_greater _ (fun cdv A outer s H E hr => ⟨_, (pss_cons (ps_set (i := 2) sc_l_greater.nd rfl (.inl rfl) (pe_call (okd_l_pick T (k := k)) hr (by rfl) T.g_l_pick T.F_l_pick.kp T.b_l_pick .nil pass0 (pa_cons (pv 0) (pa_cons (pe_callB (len_K K) (by rfl) T.z_len PySem.boot_len (pa_cons (pe_ix (ix_tupK K) (pv 1) pe_int (fun _ _ => rfl)) pa_nil)) pa_nil))))
      (pss_cons (ps_set (i := 3) sc_l_greater.nd rfl (.inl rfl) (pe_ix (ix_listK K) (pe_lst (pa_cons pe_int (pa_cons (pe_un un_neg pe_int) (pa_cons pe_int pa_nil)))) (pe_call (okd_l_pick T (k := k)) hr (by rfl) T.g_l_pick T.F_l_pick.kp T.b_l_pick .nil pass0 (pa_cons (pv 0) (pa_cons pe_int pa_nil))) (fun _ _ => rfl)))
      (pss_cons (ps_set (i := 4) sc_l_greater.nd rfl (.inl rfl) (pe_op (op_catAK K) (pe_op (op_catAK K) (pe_slice (sl_tupAK K) (pe_ix (ix_tupK K) (pv 1) pe_int (fun _ _ => rfl)) po_none (po_some (pv 2))) (pe_tup (pa_cons (pe_op op_add (pe_ix (ix_tupK K) (pe_ix (ix_tupK K) (pv 1) pe_int (fun _ _ => rfl)) (pv 2) (fun _ _ => rfl)) (pv 3)) pa_nil))) (pe_slice (sl_tupAK K) (pe_ix (ix_tupK K) (pv 1) pe_int (fun _ _ => rfl)) (po_some (pe_op op_add (pv 2) pe_int)) po_none)))
      (pss_cons (ps_set (i := 5) sc_l_greater.nd rfl (.inl rfl) (pe_op (op_catAK K) (pe_op (op_catAK K) (pe_slice (sl_tupAK K) (pe_ix (ix_tupK K) (pv 1) pe_int (fun _ _ => rfl)) po_none (po_some (pv 2))) (pe_tup (pa_cons (pe_op op_sub (pe_ix (ix_tupK K) (pe_ix (ix_tupK K) (pv 1) pe_int (fun _ _ => rfl)) (pv 2) (fun _ _ => rfl)) (pv 3)) pa_nil))) (pe_slice (sl_tupAK K) (pe_ix (ix_tupK K) (pv 1) pe_int (fun _ _ => rfl)) (po_some (pe_op op_add (pv 2) pe_int)) po_none)))
      (pss_one (ps_ret (pe_ix (ix_listK K) (pe_lst (pa_cons (pe_tup (pa_cons (pe_ix (ix_tupK K) (pv 1) pe_int (fun _ _ => rfl)) (pa_cons (pv 4) pa_nil))) (pa_cons (pe_tup (pa_cons (pv 5) (pa_cons (pe_ix (ix_tupK K) (pv 1) pe_int (fun _ _ => rfl)) pa_nil))) pa_nil))) (pe_call (okd_l_pick T (k := k)) hr (by rfl) T.g_l_pick T.F_l_pick.kp T.b_l_pick .nil pass0 (pa_cons (pv 0) (pa_cons pe_int pa_nil))) (fun _ _ => rfl)))))))),
      (ss_seq (ss_asg (se_call (sa_consL (sa_cons (se_cb sc_len (sa_cons (se_op sr_ixT (sv 1) se_int) sa_nil)) sa_nil))) sg_name)
      (ss_seq (ss_asg (se_op sr_ixL (SN.se (sn_lst (sa_cons se_int (sa_cons (se_neg se_int) (sa_cons se_int sa_nil))))) (se_call (sa_consL (sa_cons se_int sa_nil)))) sg_name)
      (ss_seq (ss_asg (se_op sr_catA (se_op sr_catA (se_slT (se_op sr_ixT (sv 1) se_int) so_none (so_some (sv 2))) (se_tup (sa_cons (se_op sr_int (se_op sr_ixT (se_op sr_ixT (sv 1) se_int) (sv 2)) (sv 3)) sa_nil))) (se_slT (se_op sr_ixT (sv 1) se_int) (so_some (se_op sr_int (sv 2) se_int)) so_none)) sg_name)
      (ss_seq (ss_asg (se_op sr_catA (se_op sr_catA (se_slT (se_op sr_ixT (sv 1) se_int) so_none (so_some (sv 2))) (se_tup (sa_cons (se_op sr_int (se_op sr_ixT (se_op sr_ixT (sv 1) se_int) (sv 2)) (sv 3)) sa_nil))) (se_slT (se_op sr_ixT (sv 1) se_int) (so_some (se_op sr_int (sv 2) se_int)) so_none)) sg_name)
      (ss_ret (se_op sr_ixL (SN.se (sn_lst (sa_cons (se_tup (sa_cons (se_op sr_ixT (sv 1) se_int) (sa_cons (sv 4) sa_nil))) (sa_cons (se_tup (sa_cons (sv 5) (sa_cons (se_op sr_ixT (sv 1) se_int) sa_nil))) sa_nil)))) (se_call (sa_consL (sa_cons se_int sa_nil)))))))))⟩) (fun ds n Q ⟨_, _, _, e, _⟩ => by rw [e]; rfl) fun ds n Q ⟨lo, hi, wd, e, nb, l1, l2, c0, c1, b1, b2, q⟩ => ?_
  subst e
  have hA : ∀ a b, (cutL (lo.map PyData.int) a b).length ≤ 10 := fun a b => by have := cutL_len (lo.map PyData.int) a b; rw [List.length_map] at this; omega
  have hB : ∀ a b, (cutL (hi.map PyData.int) a b).length ≤ 10 := fun a b => by have := cutL_len (hi.map PyData.int) a b; rw [List.length_map] at this; omega
  have tA := tamI b1 (by decide) (by decide)
  have tB := tamI b2 (by decide) (by decide)
  have tAc : ∀ a b, ∀ d ∈ cutL (lo.map PyData.int) a b, Tam 1 d := fun a b d hd => tA d (cutL_sub hd)
  have tBc : ∀ a b, ∀ d ∈ cutL (hi.map PyData.int) a b, Tam 1 d := fun a b d hd => tB d (cutL_sub hd)
  refine ⟨rfl, _, rfl, _, _, _, rfl, rfl, at0 (by decide) rfl, _, rfl, _, .inr rfl, _, rfl, by omega, by rw [List.length_map]; omega, by rw [List.length_map]; omega, fun r r0 r1 => ?_⟩
  rw [List.length_map] at r1
  obtain ⟨x, hx, ex⟩ := at_in23 (lo := lo) r0 (by omega)
  obtain ⟨y, hy, ey⟩ := at_in23 (lo := hi) r0 (by omega)
  refine ⟨_, rfl, _, rfl, by simp, rfl, 3, rfl, by omega, by decide, by decide, fun s s0 s1 => ?_⟩
  obtain ⟨u, hu, eu⟩ := at_mem (xs := [.int 1, .int (-1), .int 1000]) s0 s1
  obtain ⟨b, rfl, k1, k2⟩ : ∃ b : Int, u = .int b ∧ -1 ≤ b ∧ b ≤ 1000 := by
    simp only [List.mem_cons, List.not_mem_nil, or_false] at hu
    rcases hu with rfl | rfl | rfl
    · exact ⟨_, rfl, by decide, by decide⟩
    · exact ⟨_, rfl, by decide, by decide⟩
    · exact ⟨_, rfl, by decide, by decide⟩
  refine ⟨_, _, _, rfl, rfl, eu, ?_⟩
  refine ⟨_, rfl, _, _, _, rfl, rfl, at0 (by decide) rfl, _, rfl, _, rfl, _, rfl, _, rfl, _, _, _, rfl, rfl, at0 (by decide) rfl, _, rfl, _, _, _, rfl, rfl, ey, _, rfl, _, _, rfl, rfl, _, rfl, by simp, _, _, rfl, rfl, Nat.le_trans (Nat.add_le_add (hB _ _) (Nat.le_refl _)) (by simp), _, rfl, _, _, _, rfl, rfl, at0 (by decide) rfl, _, rfl, _, _, rfl, rfl, _, rfl, _, rfl, _, _, rfl, rfl, by simp only [List.length_append, List.length_cons, List.length_nil]; have h1 := hB none (some r); have h2 := hB (some (r + 1)) none; omega, ?_⟩
  refine ⟨_, rfl, _, _, _, rfl, rfl, at0 (by decide) rfl, _, rfl, _, rfl, _, rfl, _, rfl, _, _, _, rfl, rfl, at0 (by decide) rfl, _, rfl, _, _, _, rfl, rfl, ex, _, rfl, _, _, rfl, rfl, _, rfl, by simp, _, _, rfl, rfl, Nat.le_trans (Nat.add_le_add (hA _ _) (Nat.le_refl _)) (by simp), _, rfl, _, _, _, rfl, rfl, at0 (by decide) rfl, _, rfl, _, _, rfl, rfl, _, rfl, _, rfl, _, _, rfl, rfl, by simp only [List.length_append, List.length_cons, List.length_nil]; have h1 := hA none (some r); have h2 := hA (some (r + 1)) none; omega, ?_⟩
  refine ⟨_, rfl, _, _, _, rfl, rfl, at0 (by decide) rfl, _, rfl, _, rfl, by simp, _, rfl, _, rfl, _, _, _, rfl, rfl, at0 (by decide) rfl, _, rfl, by simp, _, rfl, by simp, rfl, 2, rfl, by omega, by decide, by decide, fun t t0 t1 => ?_⟩
  have T1 : Tam 2 (.tuple (lo.map PyData.int)) := tamTup (by rw [List.length_map]; omega) tA
  have T2 : Tam 2 (.tuple (hi.map PyData.int)) := tamTup (by rw [List.length_map]; omega) tB
  have bx := b1 x hx
  have by' := b2 y hy
  have T4 : Tam 2 (.tuple (cutL (lo.map PyData.int) none (some r) ++ [.int (x - b)] ++ cutL (lo.map PyData.int) (some (r + 1)) none)) := tamTup (by simp only [List.length_append, List.length_cons, List.length_nil]; have h1 := hA none (some r); have h2 := hA (some (r + 1)) none; omega) (tamA (tamA (tAc _ _) fun d hd => by rw [List.mem_singleton.mp hd]; exact .int (by omega) (by omega)) (tAc _ _))
  have T5 : Tam 2 (.tuple (cutL (hi.map PyData.int) none (some r) ++ [.int (y + b)] ++ cutL (hi.map PyData.int) (some (r + 1)) none)) := tamTup (by simp only [List.length_append, List.length_cons, List.length_nil]; have h1 := hB none (some r); have h2 := hB (some (r + 1)) none; omega) (tamA (tamA (tBc _ _) fun d hd => by rw [List.mem_singleton.mp hd]; exact .int (by omega) (by omega)) (tBc _ _))
  have x1 := twA_cut (lo.map PyData.int) none (some r)
  have x2 := twA_cut (lo.map PyData.int) (some (r + 1)) none
  have x3 := twA_cut (hi.map PyData.int) none (some r)
  have x4 := twA_cut (hi.map PyData.int) (some (r + 1)) none
  rw [twA_ints] at x1 x2 x3 x4
  have et : t = 0 ∨ t = 1 := by omega
  rcases et with rfl | rfl
  · refine ⟨_, _, _, rfl, rfl, at0 (by decide) rfl, q _ (tam2 T1 T5) ?_⟩
    simp only [eC, tw, twA, twA_app, twA_ints]
    omega
  · refine ⟨_, _, _, rfl, rfl, at0 (by decide) rfl, q _ (tam2 T4 T2) ?_⟩
    simp only [eC, tw, twA, twA_app, twA_ints]
    omega
def rBoxBent : List Sl → Nat → DQ → Prop := fun ds n K => ∃ (lo hi : List Int) (wd : Nat), ds = [.l, .d (eBh lo hi)] ∧ n < 900000 ∧ lo.length = wd ∧ hi.length = wd ∧ 0 < wd ∧ wd ≤ 10 ∧ cIn 0 999 lo ∧ cIn 0 999 hi ∧ ∀ d, Tam 4 d → tw d ≤ 3000 → K d (n + 7)
theorem tamD {lo : List Int} {a b : Int} (h : cIn a b lo) (ha : -1000000 ≤ a) (hb : b ≤ 1000000) (l : lo.length ≤ 100) : Tam 2 (.tuple (lo.map PyData.int)) ∧ Tam 2 (.list (lo.map PyData.int)) := ⟨tamTup (by rw [List.length_map]; exact l) (tamI h ha hb), .list (by rw [List.length_map]; exact l) (tamI h ha hb)⟩
set_option maxHeartbeats 1000000 in
theorem okd_l_box_bent (T : Tx K mg) {k : Nat} : FnOk P w K mg base CX0 (k + 4) T.f_l_box_bent T.d_l_box_bent ["_law_left_here", "_law_box_here"] (spD rBoxBent) := by
  refine okD T.F_l_box_bent sc_l_box_bent _ (fun cdv A outer s H E hr => ⟨_, (pss_cons (ps_set (i := 2) sc_l_box_bent.nd rfl (.inl rfl) (pe_lst (pa_cons (pe_call (okd_l_greater T (k := k)) hr (by rfl) T.g_l_greater T.F_l_greater.kp T.b_l_greater .nil pass0 (pa_cons (pv 0) (pa_cons (pv 1) pa_nil))) (pa_cons (pe_call (okd_l_greater T (k := k)) hr (by rfl) T.g_l_greater T.F_l_greater.kp T.b_l_greater .nil pass0 (pa_cons (pv 0) (pa_cons (pv 1) pa_nil))) (pa_cons (pe_callTy (list_K K) (by rfl) T.z_list (by decide +kernel) (pa_cons (pv 1) pa_nil)) (pa_cons (pe_tup (pa_cons (pe_callTy (list_K K) (by rfl) T.z_list (by decide +kernel) (pa_cons (pe_ix (ix_tupK K) (pv 1) pe_int (fun _ _ => rfl)) pa_nil)) (pa_cons (pe_ix (ix_tupK K) (pv 1) pe_int (fun _ _ => rfl)) pa_nil))) (pa_cons (pe_tup (pa_cons (pe_ix (ix_tupK K) (pv 1) pe_int (fun _ _ => rfl)) (pa_cons (pe_ix (ix_tupK K) (pv 1) pe_int (fun _ _ => rfl)) pa_nil))) pa_nil)))))))
      (pss_cons (ps_set (i := 2) sc_l_box_bent.nd rfl (.inl rfl) (pe_op op_cat (pv 2) (pe_lst (pa_cons (pe_tup (pa_cons (pe_ix (ix_tupK K) (pv 1) pe_int (fun _ _ => rfl)) pa_nil)) (pa_cons (pe_op (op_catAK K) (pv 1) (pe_tup (pa_cons (pe_ix (ix_tupK K) (pv 1) pe_int (fun _ _ => rfl)) pa_nil))) (pa_cons (pe_tup (pa_cons (pe_op (op_catAK K) (pe_ix (ix_tupK K) (pv 1) pe_int (fun _ _ => rfl)) (pe_tup (pa_cons pe_int pa_nil))) (pa_cons (pe_op (op_catAK K) (pe_ix (ix_tupK K) (pv 1) pe_int (fun _ _ => rfl)) (pe_tup (pa_cons pe_int pa_nil))) pa_nil))) (pa_cons pe_non (pa_cons (pe_tup pa_nil) (pa_cons (pe_tup (pa_cons (pe_ix (ix_tupK K) (pv 1) pe_int (fun _ _ => rfl)) (pa_cons pe_non pa_nil))) pa_nil)))))))))
      (pss_cons (ps_expr (pe_bm PySem.F.plainAttrs_list PySem.F.slot_list_append PySem.F.type_list_append mt_append (pv 2) (pa_cons (pe_tup (pa_cons (pe_callTy (tuple_K K) (by rfl) T.z_tuple (by decide +kernel) (pa_cons (pe_lc (own := [("_law_number", 3)]) (by rfl) sc_l_box_bent.nd (pi_tupK K (pe_ix (ix_tupK K) (pv 1) pe_int (fun _ _ => rfl))) (blkOk_by (own := [("_law_number", 3)]) (N := N_l_box_bent) (sc := defScope s_l_box_bent) (by decide +kernel)) (fun _ _ _ _ _ => (pg_name (i := 3) sc_l_box_bent.nd rfl (.inl rfl))) (fun _ _ _ _ _ => pts_nil) (fun _ _ _ _ _ => (pe_cmpR op_eq (pv 3) pe_int (nomark _)))) pa_nil)) (pa_cons (pe_ix (ix_tupK K) (pv 1) pe_int (fun _ _ => rfl)) pa_nil))) pa_nil)))
      (pss_one (ps_ret (pe_ix (ix_listK K) (pv 2) (pe_call (okd_l_pick T (k := k + 1)) hr (by rfl) T.g_l_pick T.F_l_pick.kp T.b_l_pick .nil pass0 (pa_cons (pv 0) (pa_cons (pe_callB (len_K K) (by rfl) T.z_len PySem.boot_len (pa_cons (pv 2) pa_nil)) pa_nil))) (fun _ _ => rfl))))))),
      (ss_seq (ss_asgO (sn_lst (sa_cons (se_call (sa_consL (sa_cons (sv 1) sa_nil))) (sa_cons (se_call (sa_consL (sa_cons (sv 1) sa_nil))) (sa_cons (SN.se (sn_cb scn_list (sa_cons (sv 1) sa_nil))) (sa_cons (se_tup (sa_cons (SN.se (sn_cb scn_list (sa_cons (se_op sr_ixT (sv 1) se_int) sa_nil))) (sa_cons (se_op sr_ixT (sv 1) se_int) sa_nil))) (sa_cons (se_tup (sa_cons (se_op sr_ixT (sv 1) se_int) (sa_cons (se_op sr_ixT (sv 1) se_int) sa_nil))) sa_nil)))))))
      (ss_seq (ss_asgO (sn_catO (SN.se (sn_lst (sa_cons (se_tup (sa_cons (se_op sr_ixT (sv 1) se_int) sa_nil)) (sa_cons (se_op sr_catA (sv 1) (se_tup (sa_cons (se_op sr_ixT (sv 1) se_int) sa_nil))) (sa_cons (se_tup (sa_cons (se_op sr_catA (se_op sr_ixT (sv 1) se_int) (se_tup (sa_cons se_int sa_nil))) (sa_cons (se_op sr_catA (se_op sr_ixT (sv 1) se_int) (se_tup (sa_cons se_int sa_nil))) sa_nil))) (sa_cons se_non (sa_cons (se_tup sa_nil) (sa_cons (se_tup (sa_cons (se_op sr_ixT (sv 1) se_int) (sa_cons se_non sa_nil))) sa_nil))))))))))
      (ss_seq (ss_app (se_tup (sa_cons (se_cb sc_tup (sa_cons (SN.se (sn_lc (si_tup (se_op sr_ixT (sv 1) se_int)) sg_name st_yesD (se_op sr_eqI (sv 3) se_int) (by decide))) sa_nil)) (sa_cons (se_op sr_ixT (sv 1) se_int) sa_nil))))
      (ss_ret (se_ixO (se_call (sa_consL (sa_cons se_lenO sa_nil))))))))⟩) (fun ds n Q ⟨_, _, _, e, _⟩ => by rw [e]; rfl) fun ds n Q ⟨lo, hi, wd, e, nb, l1, l2, c0, c1, b1, b2, q⟩ => ?_
  subst e
  refine ⟨rfl, _, rfl, lo, hi, wd, rfl, by omega, l1, l2, c0, c1, b1, b2, fun g1 tg1 wg1 => ?_⟩
  refine ⟨rfl, _, rfl, lo, hi, wd, rfl, by omega, l1, l2, c0, c1, b1, b2, fun g2 tg2 wg2 => ?_⟩
  refine ⟨_, rfl, _, rfl, _, .inr rfl, _, rfl, _, _, _, rfl, rfl, at0 (by decide) rfl, _, rfl, _, .inr rfl, _, rfl, _, _, _, rfl, rfl, at0 (by decide) rfl, _, rfl, by simp, _, rfl, _, _, _, rfl, rfl, at0 (by decide) rfl, _, rfl, _, _, _, rfl, rfl, at0 (by decide) rfl, _, rfl, by simp, _, rfl, by simp, ?_⟩
  refine ⟨_, rfl, _, rfl, _, _, _, rfl, rfl, at0 (by decide) rfl, _, rfl, by simp, _, rfl, _, rfl, _, _, _, rfl, rfl, at0 (by decide) rfl, _, rfl, by simp, _, _, rfl, rfl, by simp, _, rfl, _, _, _, rfl, rfl, at0 (by decide) rfl, _, rfl, by simp, _, _, rfl, rfl, (by rw [List.length_map]; simp; omega), _, rfl, _, _, _, rfl, rfl, at0 (by decide) rfl, _, rfl, by simp, _, _, rfl, rfl, (by rw [List.length_map]; simp; omega), _, rfl, by simp, _, rfl, by simp, _, rfl, _, _, _, rfl, rfl, at0 (by decide) rfl, _, rfl, by simp, _, rfl, by simp, _, rfl, by simp, ?_⟩
  refine ⟨_, rfl, by simp, _, rfl, _, _, _, rfl, rfl, at0 (by decide) rfl, _, rfl, lcD (by rw [List.length_map]; omega) (fun i => (lo[i]?).map fun x => .bool (decide (x = 1))) (fun i d Ky Kn ed ky kn => ?_) ?_⟩
  · obtain ⟨x, ex, rfl⟩ := mpG ed
    exact ⟨_, rfl, _, _, rfl, rfl, ky _ (by rw [ex]; rfl)⟩
  rw [List.length_map, fmM]
  refine ⟨_, rfl, _, .inl rfl, _, rfl, _, _, _, rfl, rfl, at0 (by decide) rfl, _, rfl, by simp, _, rfl, rfl, _, rfl, _, rfl, by omega, by simp, by simp, fun s s0 s1 => ?_⟩
  obtain ⟨d, hd, e⟩ := at_mem s0 s1
  obtain ⟨T1, L1⟩ := tamD b1 (by decide) (by decide) (by omega)
  obtain ⟨T2, L2⟩ := tamD b2 (by decide) (by decide) (by omega)
  have TB : Tam 3 (eBh lo hi) := tam2 T1 T2
  have wl : tw (eBh lo hi) ≤ 1500 := by simp only [eBh, eC, tw, twA, twA_ints]; omega
  have bl : (lo.map fun x => PyData.bool (decide (x = 1))).length ≤ 10 := by rw [List.length_map]; omega
  have bt : ∀ d ∈ lo.map (fun x => PyData.bool (decide (x = 1))), Tam 1 d ∧ tw d ≤ 10 := fun d hd => by
    obtain ⟨x, _, rfl⟩ := List.mem_map.mp hd
    exact ⟨.bool _, Nat.le_refl _⟩
  have bw := twA_le fun d hd => (bt d hd).2
  rw [List.length_map] at bw
  have bw : twA (lo.map fun x => PyData.bool (decide (x = 1))) ≤ 120 := by omega
  have z0 : ∀ d ∈ [PyData.int 0], Tam 1 d := fun d hd => by rw [List.mem_singleton.mp hd]; exact .int (by decide) (by decide)
  have tA := tamI b1 (by decide) (by decide)
  have tB := tamI b2 (by decide) (by decide)
  refine ⟨_, _, rfl, e, ?_⟩
  simp only [List.cons_append, List.nil_append, List.mem_cons, List.not_mem_nil, or_false] at hd
  have fw : tw d ≤ 3000 := by
    rcases hd with rfl | rfl | rfl | rfl | rfl | rfl | rfl | rfl | rfl | rfl | rfl | rfl <;> (try simp only [eBh, eC, tw, twA, twA_app, twA_ints]) <;> omega
  refine q d ?_ fw
  rcases hd with rfl | rfl | rfl | rfl | rfl | rfl | rfl | rfl | rfl | rfl | rfl | rfl
  · exact tg1.up (by decide)
  · exact tg2.up (by decide)
  · exact (Tam.list (k := 2) (by simp) fun d hd => by
      simp only [List.mem_cons, List.not_mem_nil, or_false] at hd
      rcases hd with rfl | rfl
      · exact T1
      · exact T2).up (by decide)
  · exact (tam2 L1 T2).up (by decide)
  · exact (tam2 T2 T1).up (by decide)
  · exact (tam1 T1).up (by decide)
  · exact (Tam.tuple (k := 2) (by simp) fun d hd => by
      simp only [List.cons_append, List.nil_append, List.mem_cons, List.not_mem_nil, or_false] at hd
      rcases hd with rfl | rfl | rfl
      · exact T1
      · exact T2
      · exact T1).up (by decide)
  · exact (tam2 (tamTup (k := 1) (by simp; omega) (tamA tA z0)) (tamTup (k := 1) (by simp; omega) (tamA tB z0))).up (by decide)
  · exact .none
  · exact .tuple (by simp) fun _ h => nomatch h
  · exact (tam2 T1 .none).up (by decide)
  · exact (tam2 (tamTup (by omega) fun d hd => (bt d hd).1) T2).up (by decide)
/-! ### things of any kind -/
def rAny (f : Nat) : List Sl → Nat → DQ → Prop := fun ds n K => ∃ m : Nat, ds = [.l, .d (.int m)] ∧ m ≤ f ∧ n + 2 * 4 ^ m ≤ 1000000 ∧ ∀ (d : PyData) (j : Nat), j ≤ n + 2 * 4 ^ m - 1 → Tam (m + 1) d → tw d ≤ 130 * 6 ^ m → K d j
def rAnyS : Nat → List Sl → Nat → DQ → Prop
  | 0 => fun _ _ _ => False
  | f + 1 => rAny f
theorem tam_leaf (k : Nat) : Tam k (.str "leaf") := .str (sh_leaf 0)
theorem tam_node (k : Nat) : Tam k (.str "node") := .str (sh_node 0)
theorem tam_nil (k : Nat) : Tam k (.str "") := .str ⟨by decide +kernel, by rw [PyData.depth]; exact Nat.le_refl _, by rw [wide]⟩
set_option maxHeartbeats 1000000 in
theorem any_step (T : Tx K mg) {f k : Nat} (GS : FnOk P w K mg base CX0 (k + 2) T.f_l_any T.d_l_any ["_law_left_here", "_law_deep"] (spD (rAnyS f))) :
    FnOk P w K mg base CX0 (k + 3) T.f_l_any T.d_l_any ["_law_left_here", "_law_deep"] (spD (rAny f)) := by
  refine okD T.F_l_any sc_l_any _ (fun cdv A outer s H E hr => have hrS := hr; ⟨_, (pss_cons (ps_set (i := 2) sc_l_any.nd rfl (.inl rfl) (pe_lst (pa_cons pe_non (pa_cons pe_bl (pa_cons pe_bl (pa_cons pe_int (pa_cons pe_int (pa_cons (pe_un un_neg pe_int) (pa_cons pe_int (pa_cons pe_int (pa_cons pe_int (pa_cons pe_str (pa_cons pe_str (pa_cons pe_str (pa_cons (pe_tup pa_nil) (pa_cons (pe_lst pa_nil) pa_nil))))))))))))))))
      (pss_cons (ps_if (PW.pt (pw_or (pt_cmpR op_eq (pv 1) pe_int (nomark _)) (pw_or1 (pt_cmpR op_eq (pe_call (okd_l_pick T (k := k)) hr (by rfl) T.g_l_pick T.F_l_pick.kp T.b_l_pick .nil pass0 (pa_cons (pv 0) (pa_cons pe_int pa_nil))) pe_int (nomark _))))) (pss_one (ps_ret (pe_ix (ix_listK K) (pv 2) (pe_call (okd_l_pick T (k := k)) hr (by rfl) T.g_l_pick T.F_l_pick.kp T.b_l_pick .nil pass0 (pa_cons (pv 0) (pa_cons pe_int pa_nil))) (fun _ _ => rfl)))) pss_nil)
      (pss_cons (ps_setLc (i := 3) (own := [("_law_k", 4)]) (by rfl) sc_l_any.nd rfl rfl (sw_true rfl rfl rfl (by decide +kernel)) (pi_range1 (by rfl) T.z_range (pa_cons (pe_call (okd_l_pick T (k := k)) hr (by rfl) T.g_l_pick T.F_l_pick.kp T.b_l_pick .nil pass0 (pa_cons (pv 0) (pa_cons pe_int pa_nil))) pa_nil)) (blkOk_by (own := [("_law_k", 4)]) (N := N_l_any) (sc := defScope s_l_any) (by decide +kernel)) (fun _ _ _ _ _ => (pg_name (i := 4) sc_l_any.nd rfl (.inl rfl))) (fun _ _ _ _ _ => pts_nil) (fun _ _ _ _ _ => (pe_call GS hrS (by rfl) T.g_l_any T.F_l_any.kp T.b_l_any .nil pass0 (pa_cons (pv 0) (pa_cons (pe_op op_sub (pv 1) pe_int) pa_nil)))))
      (pss_one (ps_ret (pe_ix (ix_listK K) (pe_lst (pa_cons (pv 3) (pa_cons (pe_callTy (tuple_K K) (by rfl) T.z_tuple (by decide +kernel) (pa_cons (pv 3) pa_nil)) (pa_cons (pe_op (op_catAK K) (pe_tup (pa_cons pe_str pa_nil)) (pe_callTy (tuple_K K) (by rfl) T.z_tuple (by decide +kernel) (pa_cons (pv 3) pa_nil))) (pa_cons (pe_op (op_catAK K) (pe_tup (pa_cons pe_str pa_nil)) (pe_callTy (tuple_K K) (by rfl) T.z_tuple (by decide +kernel) (pa_cons (pv 3) pa_nil))) pa_nil))))) (pe_call (okd_l_pick T (k := k)) hr (by rfl) T.g_l_pick T.F_l_pick.kp T.b_l_pick .nil pass0 (pa_cons (pv 0) (pa_cons pe_int pa_nil))) (fun _ _ => rfl))))))),
      (ss_seq (ss_asg (SN.se (sn_lst (sa_cons se_non (sa_cons se_bl (sa_cons se_bl (sa_cons se_int (sa_cons se_int (sa_cons (se_neg se_int) (sa_cons se_int (sa_cons se_int (sa_cons se_int (sa_cons se_str (sa_cons se_str (sa_cons se_str (sa_cons (se_tup sa_nil) (sa_cons (SN.se (sn_lst sa_nil)) sa_nil)))))))))))))))) sg_name)
      (ss_seq (ss_if (st_or (st_test (se_op sr_eqI (sv 1) se_int)) (st_test (se_op sr_eqI (se_call (sa_consL (sa_cons se_int sa_nil))) se_int))) (ss_ret (se_op sr_ixL (sv 2) (se_call (sa_consL (sa_cons se_int sa_nil))))) ss_next)
      (ss_seq (ss_asg (SN.se (sn_lc (si_r1 (sa_cons (se_call (sa_consL (sa_cons se_int sa_nil))) sa_nil)) sg_name st_yesD (se_call (sa_consL (sa_cons (se_op sr_int (sv 1) se_int) sa_nil))) (by decide))) sg_name)
      (ss_ret (se_op sr_ixL (SN.se (sn_lst (sa_cons (sv 3) (sa_cons (se_cb sc_tup (sa_cons (sv 3) sa_nil)) (sa_cons (se_op sr_catA (se_tup (sa_cons se_str sa_nil)) (se_cb sc_tup (sa_cons (sv 3) sa_nil))) (sa_cons (se_op sr_catA (se_tup (sa_cons se_str sa_nil)) (se_cb sc_tup (sa_cons (sv 3) sa_nil))) sa_nil)))))) (se_call (sa_consL (sa_cons se_int sa_nil))))))))⟩) (fun ds n Q ⟨_, e, _⟩ => by rw [e]; rfl) fun ds n Q ⟨m, e, mf, nb, q⟩ => ?_
  subst e
  refine ⟨_, rfl, _, rfl, by simp, _, rfl, by simp, _, rfl, by simp, ?_⟩
  have p1 : 1 ≤ 4 ^ m := Nat.pos_of_ne_zero (by simp)
  obtain ⟨L0, eL⟩ : ∃ L0 : List PyData, L0 = [.none, .bool true, .bool false, .int 0, .int 1, .int (-1), .int 7, .int 999, .int 1000, .str "", .str "leaf", .str "node", .tuple [], .list []] := ⟨_, rfl⟩
  have l0 : L0.length = 14 := by rw [eL]; rfl
  have tl : ∀ d ∈ L0, Tam 1 d := by
    rw [eL]
    intro d hd
    simp only [List.mem_cons, List.not_mem_nil, or_false] at hd
    rcases hd with rfl | rfl | rfl | rfl | rfl | rfl | rfl | rfl | rfl | rfl | rfl | rfl | rfl | rfl
    · exact .none
    · exact .bool _
    · exact .bool _
    · exact .int (by decide) (by decide)
    · exact .int (by decide) (by decide)
    · exact .int (by decide) (by decide)
    · exact .int (by decide) (by decide)
    · exact .int (by decide) (by decide)
    · exact .int (by decide) (by decide)
    · exact tam_nil _
    · exact tam_leaf _
    · exact tam_node _
    · exact .tuple (by simp) fun _ h => nomatch h
    · exact .list (by simp) fun _ h => nomatch h
  have tw0 : ∀ d ∈ L0, tw d ≤ 130 := by
    rw [eL]
    intro d hd
    simp only [List.mem_cons, List.not_mem_nil, or_false] at hd
    rcases hd with rfl | rfl | rfl | rfl | rfl | rfl | rfl | rfl | rfl | rfl | rfl | rfl | rfl | rfl <;> decide +kernel
  have p6 : 1 ≤ 6 ^ m := Nat.pos_of_ne_zero (by simp)
  have pk : ∀ (r : Int) (j : Nat), 0 ≤ r → r < 14 → j ≤ n + 2 * 4 ^ m - 1 → rdIxL (.list L0) (.int r) fun d => Q d j := fun r j r0 r1 hj => by
    obtain ⟨d, hd, e⟩ := at_mem (xs := L0) r0 (by rw [l0]; exact r1)
    exact ⟨_, _, _, rfl, rfl, e, q d j hj ((tl d hd).up (by omega)) (by have := tw0 d hd; omega)⟩
  refine ⟨_, rfl, _, _, rfl, rfl, _, rfl, ?_⟩
  by_cases m0 : m = 0
  · subst m0
    refine iteE (decide_eq_true rfl) (iteT ⟨_, rfl, rfl, 14, rfl, by omega, by decide, by decide, fun r r0 r1 => ?_⟩)
    have := pk r (n + 1) r0 r1 (by omega)
    rw [eL] at this
    exact this
  obtain ⟨i, rfl⟩ : ∃ i, m = i + 1 := ⟨m - 1, by omega⟩
  obtain ⟨X, eX⟩ : ∃ X, X = 4 ^ i := ⟨_, rfl⟩
  have hX : 4 ^ (i + 1) = 4 * X := by rw [eX, Nat.pow_succ, Nat.mul_comm]
  obtain ⟨B, eB⟩ : ∃ B, B = 130 * 6 ^ i := ⟨_, rfl⟩
  have hB : 130 * 6 ^ (i + 1) = 6 * B := by rw [eB, Nat.pow_succ]; omega
  have B1 : 130 ≤ B := by
    have : 1 ≤ 6 ^ i := Nat.pos_of_ne_zero (by simp)
    omega
  rw [hX] at nb p1 pk
  rw [hX, hB] at q
  refine iteN (decide_eq_false (by omega)) ⟨rfl, 3, rfl, by omega, by decide, by decide, fun r r0 r1 => ⟨_, _, rfl, rfl, _, rfl, ite2 (fun h => ?_) (fun h => ?_)⟩⟩
  · refine ⟨_, rfl, rfl, 14, rfl, by omega, by decide, by decide, fun r r0 r1 => ?_⟩
    have := pk r (n + 1 + 1) r0 r1 (by omega)
    rw [eL] at this
    exact this
  obtain ⟨C, eC⟩ : ∃ C, C = 2 * X - 1 := ⟨_, rfl⟩
  refine ⟨rfl, 5, rfl, by omega, by decide, by decide, fun p p0 p5 => ⟨_, rfl, by omega, by omega, by rw [rgD_len]; omega, fun a acc j => acc.length = a ∧ (∀ d ∈ acc, Tam (i + 1) d ∧ tw d ≤ B) ∧ j ≤ n + 1 + 1 + a * C, ⟨rfl, (fun _ h => nomatch h), by omega⟩, fun a d acc j ed ⟨la, ta, ej⟩ => ?_, fun acc j ⟨la, ta, ej⟩ => ?_⟩⟩
  · have hi : a < p.toNat := by have := (List.getElem?_eq_some_iff.mp ed).1; rwa [rgD_len] at this
    have h3 : a * C ≤ 3 * C := Nat.mul_le_mul_right _ (by omega)
    have h4 : (a + 1) * C = a * C + C := Nat.succ_mul _ _
    cases f with
    | zero => omega
    | succ f =>
    refine ⟨rfl, _, rfl, _, _, rfl, rfl, i, by show [Sl.l, Sl.d (.int (((i + 1 : Nat) : Int) - 1))] = _; rw [show ((i + 1 : Nat) : Int) - 1 = (i : Int) by omega], by omega, by rw [← eX]; omega, fun d m hm td wd => ⟨by simp [la], fun x hx => ?_, ?_⟩⟩
    · rcases List.mem_append.mp hx with h | h
      · exact ta x h
      · rw [List.mem_singleton.mp h]; exact ⟨td, by rw [eB]; exact wd⟩
    · rw [← eX] at hm
      omega
  rw [rgD_len] at la ej
  have h4 : p.toNat * C ≤ 4 * C := Nat.mul_le_mul_right _ (by omega)
  have hj : j + 1 ≤ n + 2 * (4 * X) - 1 := by omega
  refine ⟨_, rfl, _, rfl, _, rfl, _, .inl rfl, ?_⟩
  have wa := twA_le fun d hd => (ta d hd).2
  have ta := fun d hd => (ta d hd).1
  have wa4 : twA acc ≤ (B + 2) * 4 := Nat.le_trans wa (Nat.mul_le_mul_left _ (by omega))
  have wl : tw (.str "leaf") = 42 := by decide +kernel
  have wn : tw (.str "node") = 42 := by decide +kernel
  have hl : (PyData.str "leaf" :: acc).length ≤ 100 ∧ ∀ d ∈ (PyData.str "leaf" :: acc), Tam (i + 1) d := ⟨by rw [List.length_cons]; omega, fun d hd => (List.mem_cons.mp hd).elim (fun h => by rw [h]; exact tam_leaf _) (ta d)⟩
  have hn : (PyData.str "node" :: acc).length ≤ 100 ∧ ∀ d ∈ (PyData.str "node" :: acc), Tam (i + 1) d := ⟨by rw [List.length_cons]; omega, fun d hd => (List.mem_cons.mp hd).elim (fun h => by rw [h]; exact tam_node _) (ta d)⟩
  refine ⟨_, rfl, by simp, _, rfl, _, rfl, _, .inl rfl, _, _, rfl, rfl, by simp; omega, ?_⟩
  refine ⟨_, rfl, by simp, _, rfl, _, rfl, _, .inl rfl, _, _, rfl, rfl, by simp; omega, ?_⟩
  refine ⟨_, rfl, by simp, rfl, 4, rfl, by omega, by decide, by decide, fun r r0 r1 => ?_⟩
  obtain ⟨d, hd, e⟩ := at_mem (xs := [.list acc, .tuple acc, .tuple (.str "leaf" :: acc), .tuple (.str "node" :: acc)]) r0 r1
  refine ⟨_, _, _, rfl, rfl, e, q d (j + 1) hj ?_ ?_⟩
  all_goals simp only [List.mem_cons, List.not_mem_nil, or_false] at hd
  · rcases hd with rfl | rfl | rfl | rfl
    · exact .list (by omega) ta
    · exact .tuple (by omega) ta
    · exact .tuple hl.1 hl.2
    · exact .tuple hn.1 hn.2
  · rcases hd with rfl | rfl | rfl | rfl
    · rw [tw]; omega
    · rw [tw]; omega
    · rw [tw, twA, wl]; omega
    · rw [tw, twA, wn]; omega
theorem any_all (T : Tx K mg) {k : Nat} : ∀ f : Nat, FnOk P w K mg base CX0 (k + 3 + f) T.f_l_any T.d_l_any ["_law_left_here", "_law_deep"] (spD (rAny f))
  | 0 => any_step T (f := 0) ⟨fun vs H Q E h => by
      obtain ⟨_, _, _, _, _, _, _, _, _, h, _⟩ := h
      exact h.elim, fun A outer s H args us vs Q E hr e0 hb r h => by
      obtain ⟨_, _, _, _, _, _, _, _, _, h, _⟩ := h
      exact h.elim⟩
  | f + 1 => (any_step (k := k + 1 + f) T (f := f + 1) (by
      have := any_all T (k := k) f
      have e : k + 1 + f + 2 = k + 3 + f := by omega
      rw [e]
      exact this)).mono (by omega)
theorem okd_l_any (T : Tx K mg) {k : Nat} : FnOk P w K mg base CX0 (k + 8) T.f_l_any T.d_l_any ["_law_left_here", "_law_deep"] (spD (rAny 5)) := any_all T (k := k) 5
/-! ### a leaf with one thing otherwise -/
theorem sok_of (s : String) : PyData.strOk (Str.ofString s) = true := by
  unfold PyData.strOk
  rw [Str.ofString_eq_toList]
  rw [List.all_toArray, List.all_map, List.all_eq_true]
  intro c _
  refine decide_eq_true ?_
  have := c.valid
  unfold UInt32.isValidChar Nat.isValidChar at this
  show c.val.toNat < 1114112
  omega
theorem tamStr (i : Int) (k : Nat) : Tam k (.str (toString i)) := .str ⟨sok_of _, by rw [PyData.depth]; exact Nat.le_refl _, by rw [wide]⟩
theorem twStr {i : Int} (h : -1000000 ≤ i) (h2 : i ≤ 1000000) : tw (.str (toString i)) ≤ 602 := by
  have := (shw_int (i := i) (by omega)).c
  rw [PyData.shown] at this
  rw [tw]
  omega
def rLfb : List Sl → Nat → DQ → Prop := fun ds n K => ∃ (cs : List (List Int)) (lo hi ns : List Int) (wd : Nat), ds = [.l, .d (eP cs), .d (eT (.leaf lo hi ns))] ∧ n < 800000 ∧ 0 < cs.length ∧ cs.length ≤ 40 ∧ lo.length = wd ∧ hi.length = wd ∧ 0 < wd ∧ wd ≤ 10 ∧ cIn 0 999 lo ∧ cIn 0 999 hi ∧ 0 < ns.length ∧ ns.length ≤ 40 ∧ (∀ x ∈ ns, 0 ≤ x ∧ x < (cs.length : Int)) ∧ ∀ d j, j ≤ n + 200 → Tam 6 d → tw d ≤ 30000 → K d j
set_option maxHeartbeats 1000000 in
theorem okd_l_leaf_bent (T : Tx K mg) {k : Nat} : FnOk P w K mg base CX0 (k + 9) T.f_l_leaf_bent T.d_l_leaf_bent ["_law_left_here", "_law_palette_here", "_law_node"] (spD rLfb) := by
  refine okD T.F_l_leaf_bent sc_l_leaf_bent _ (fun cdv A outer s H E hr => ⟨_, (pss_cons (ps_asg (pv 2) (pg_tupK K (n := 3) rfl (pgs_cons (pg_name (i := 3) sc_l_leaf_bent.nd rfl (.inl rfl)) (pgs_cons (pg_name (i := 4) sc_l_leaf_bent.nd rfl (.inl rfl)) (pgs_cons (pg_name (i := 5) sc_l_leaf_bent.nd rfl (.inl rfl)) pgs_nil)))))
      (pss_cons (ps_set (i := 6) sc_l_leaf_bent.nd rfl (.inl rfl) (pe_call (okd_l_pick T (k := k + 6)) hr (by rfl) T.g_l_pick T.F_l_pick.kp T.b_l_pick .nil pass0 (pa_cons (pv 0) (pa_cons (pe_callB (len_K K) (by rfl) T.z_len PySem.boot_len (pa_cons (pv 1) pa_nil)) pa_nil))))
      (pss_cons (ps_set (i := 7) sc_l_leaf_bent.nd rfl (.inl rfl) (pe_callTy (tuple_K K) (by rfl) T.z_tuple (by decide +kernel) (pa_cons (pe_callB (cr_sortTIK K) (by rfl) T.z_sorted (by decide +kernel) (pa_cons (pe_op (op_catAK K) (pv 5) (pe_tup (pa_cons (pv 6) pa_nil))) pa_nil)) pa_nil)))
      (pss_cons (ps_set (i := 8) sc_l_leaf_bent.nd rfl (.inl rfl) (pe_lst (pa_cons (pe_revTK K (pv 5)) (pa_cons (pe_callTy (list_K K) (by rfl) T.z_list (by decide +kernel) (pa_cons (pv 5) pa_nil)) (pa_cons (pe_op (op_catAK K) (pv 5) (pe_tup (pa_cons (pv 6) pa_nil))) (pa_cons (pv 7) (pa_cons (pe_slice (sl_tupAK K) (pv 5) (po_some pe_int) po_none) (pa_cons (pe_tup pa_nil) (pa_cons (pe_op (op_catAK K) (pe_slice (sl_tupAK K) (pv 5) po_none (po_some (pe_un un_neg pe_int))) (pe_tup (pa_cons pe_bl pa_nil))) pa_nil)))))))))
      (pss_cons (ps_set (i := 8) sc_l_leaf_bent.nd rfl (.inl rfl) (pe_op op_cat (pv 8) (pe_lst (pa_cons (pe_callTy (tuple_K K) (by rfl) T.z_tuple (by decide +kernel) (pa_cons (pe_sortSetTK K (by rfl) T.z_sorted (by rfl) T.z_set (pv 7)) pa_nil)) (pa_cons (pe_tup (pa_cons (pe_callB (len_K K) (by rfl) T.z_len PySem.boot_len (pa_cons (pv 1) pa_nil)) pa_nil)) (pa_cons (pe_op (op_catAK K) (pe_tup (pa_cons (pe_un un_neg pe_int) pa_nil)) (pv 5)) (pa_cons pe_non (pa_cons (pe_tup (pa_cons (pv 6) pa_nil)) (pa_cons (pe_tup (pa_cons (pe_callTy cr_strI (by rfl) T.z_str (by decide +kernel) (pa_cons (pv 6) pa_nil)) pa_nil)) pa_nil)))))))))
      (pss_cons (ps_set (i := 9) sc_l_leaf_bent.nd rfl (.inl rfl) (pe_call (okd_l_pick T (k := k + 6)) hr (by rfl) T.g_l_pick T.F_l_pick.kp T.b_l_pick .nil pass0 (pa_cons (pv 0) (pa_cons pe_int pa_nil))))
      (pss_cons (ps_if (pt_cmpR op_eq (pv 9) pe_int (nomark _)) (pss_one (ps_ret (pe_tup (pa_cons (pv 3) (pa_cons (pe_call (okd_l_box_bent T (k := k + 4)) hr (by rfl) T.g_l_box_bent T.F_l_box_bent.kp T.b_l_box_bent .nil pass0 (pa_cons (pv 0) (pa_cons (pv 4) pa_nil))) (pa_cons (pv 5) pa_nil)))))) pss_nil)
      (pss_cons (ps_if (pt_cmpR op_eq (pv 9) pe_int (nomark _)) (pss_one (ps_ret (pe_ix (ix_listK K) (pe_lst (pa_cons (pe_tup (pa_cons (pv 3) (pa_cons (pv 4) pa_nil))) (pa_cons (pe_tup (pa_cons (pv 3) (pa_cons (pv 4) (pa_cons (pv 5) (pa_cons pe_int pa_nil))))) (pa_cons (pe_tup (pa_cons pe_str (pa_cons (pv 4) (pa_cons (pv 5) pa_nil)))) (pa_cons (pe_callTy (list_K K) (by rfl) T.z_list (by decide +kernel) (pa_cons (pv 2) pa_nil)) (pa_cons (pv 5) pa_nil)))))) (pe_call (okd_l_pick T (k := k + 6)) hr (by rfl) T.g_l_pick T.F_l_pick.kp T.b_l_pick .nil pass0 (pa_cons (pv 0) (pa_cons pe_int pa_nil))) (fun _ _ => rfl)))) pss_nil)
      (pss_cons (ps_if (pt_cmpR op_eq (pv 9) pe_int (nomark _)) (pss_cons (ps_set (i := 5) sc_l_leaf_bent.nd rfl (.inl rfl) (pe_ix (ix_listK K) (pv 8) (pe_call (okd_l_pick T (k := k + 6)) hr (by rfl) T.g_l_pick T.F_l_pick.kp T.b_l_pick .nil pass0 (pa_cons (pv 0) (pa_cons (pe_callB (len_K K) (by rfl) T.z_len PySem.boot_len (pa_cons (pv 8) pa_nil)) pa_nil))) (fun _ _ => rfl)))
      (pss_one (ps_ret (pe_tup (pa_cons (pv 3) (pa_cons (pv 4) (pa_cons (pv 5) pa_nil))))))) pss_nil)
      (pss_cons (ps_set (i := 8) sc_l_leaf_bent.nd rfl (.inl rfl) (pe_lst (pa_cons (pe_tup (pa_cons pe_str (pa_cons (pv 4) (pa_cons (pv 2) (pa_cons (pv 2) pa_nil))))) (pa_cons (pe_tup (pa_cons pe_str (pa_cons (pv 4) (pa_cons (pv 2) pa_nil)))) (pa_cons (pe_tup (pa_cons pe_bl (pa_cons (pv 4) (pa_cons (pv 5) pa_nil)))) (pa_cons (pe_call (okd_l_any T (k := k)) hr (by rfl) T.g_l_any T.F_l_any.kp T.b_l_any .nil pass0 (pa_cons (pv 0) (pa_cons pe_int pa_nil))) (pa_cons (pe_tup (pa_cons (pv 3) pa_nil)) pa_nil)))))))
      (pss_one (ps_ret (pe_ix (ix_listK K) (pv 8) (pe_call (okd_l_pick T (k := k + 6)) hr (by rfl) T.g_l_pick T.F_l_pick.kp T.b_l_pick .nil pass0 (pa_cons (pv 0) (pa_cons pe_int pa_nil))) (fun _ _ => rfl)))))))))))))),
      (ss_seq (ss_asg (sv 2) (sg_tup (sgs_cons sg_name (sgs_cons sg_name (sgs_cons sg_name sgs_nil)))))
      (ss_seq (ss_asg (se_call (sa_consL (sa_cons (se_cb sc_len (sa_cons (sv 1) sa_nil)) sa_nil))) sg_name)
      (ss_seq (ss_asg (se_cb sc_tup (sa_cons (SN.se (sn_cb scn_sortT (sa_cons (se_op sr_catA (sv 5) (se_tup (sa_cons (sv 6) sa_nil))) sa_nil))) sa_nil)) sg_name)
      (ss_seq (ss_asg (SN.se (sn_lst (sa_cons (se_revT (sv 5)) (sa_cons (SN.se (sn_cb scn_list (sa_cons (sv 5) sa_nil))) (sa_cons (se_op sr_catA (sv 5) (se_tup (sa_cons (sv 6) sa_nil))) (sa_cons (sv 7) (sa_cons (se_slT (sv 5) (so_some se_int) so_none) (sa_cons (se_tup sa_nil) (sa_cons (se_op sr_catA (se_slT (sv 5) so_none (so_some (se_neg se_int))) (se_tup (sa_cons se_bl sa_nil))) sa_nil))))))))) sg_name)
      (ss_seq (ss_asg (SN.se (sn_op srn_cat (sv 8) (SN.se (sn_lst (sa_cons (se_cb sc_tup (sa_cons (SN.se (sn_sortSetT (sv 7))) sa_nil)) (sa_cons (se_tup (sa_cons (se_cb sc_len (sa_cons (sv 1) sa_nil)) sa_nil)) (sa_cons (se_op sr_catA (se_tup (sa_cons (se_neg se_int) sa_nil)) (sv 5)) (sa_cons se_non (sa_cons (se_tup (sa_cons (sv 6) sa_nil)) (sa_cons (se_tup (sa_cons (se_cb sc_strI (sa_cons (sv 6) sa_nil)) sa_nil)) sa_nil)))))))))) sg_name)
      (ss_seq (ss_asg (se_call (sa_consL (sa_cons se_int sa_nil))) sg_name)
      (ss_seq (ss_if (st_test (se_op sr_eqI (sv 9) se_int)) (ss_ret (se_tup (sa_cons (sv 3) (sa_cons (se_call (sa_consL (sa_cons (sv 4) sa_nil))) (sa_cons (sv 5) sa_nil))))) ss_next)
      (ss_seq (ss_if (st_test (se_op sr_eqI (sv 9) se_int)) (ss_ret (se_op sr_ixL (SN.se (sn_lst (sa_cons (se_tup (sa_cons (sv 3) (sa_cons (sv 4) sa_nil))) (sa_cons (se_tup (sa_cons (sv 3) (sa_cons (sv 4) (sa_cons (sv 5) (sa_cons se_int sa_nil))))) (sa_cons (se_tup (sa_cons se_str (sa_cons (sv 4) (sa_cons (sv 5) sa_nil)))) (sa_cons (SN.se (sn_cb scn_list (sa_cons (sv 2) sa_nil))) (sa_cons (sv 5) sa_nil))))))) (se_call (sa_consL (sa_cons se_int sa_nil))))) ss_next)
      (ss_seq (ss_if (st_test (se_op sr_eqI (sv 9) se_int)) (ss_seq (ss_asg (se_op sr_ixL (sv 8) (se_call (sa_consL (sa_cons (se_cb sc_len (sa_cons (sv 8) sa_nil)) sa_nil)))) sg_name)
      (ss_ret (se_tup (sa_cons (sv 3) (sa_cons (sv 4) (sa_cons (sv 5) sa_nil)))))) ss_next)
      (ss_seq (ss_asg (SN.se (sn_lst (sa_cons (se_tup (sa_cons se_str (sa_cons (sv 4) (sa_cons (sv 2) (sa_cons (sv 2) sa_nil))))) (sa_cons (se_tup (sa_cons se_str (sa_cons (sv 4) (sa_cons (sv 2) sa_nil)))) (sa_cons (se_tup (sa_cons se_bl (sa_cons (sv 4) (sa_cons (sv 5) sa_nil)))) (sa_cons (se_call (sa_consL (sa_cons se_int sa_nil))) (sa_cons (se_tup (sa_cons (sv 3) sa_nil)) sa_nil))))))) sg_name)
      (ss_ret (se_op sr_ixL (sv 8) (se_call (sa_consL (sa_cons se_int sa_nil)))))))))))))))⟩) (fun ds n Q ⟨_, _, _, _, _, e, _⟩ => by rw [e]; rfl) fun ds n Q ⟨cs, lo, hi, ns, wd, e, nb, c0, c1, l1, l2, w0, w1, b1, b2, n0, n1, nin, q⟩ => ?_
  subst e
  refine ⟨_, rfl, _, rfl, rfl, _, _, rfl, _, _, rfl, _, _, rfl, rfl, ?_⟩
  refine ⟨rfl, _, rfl, _, rfl, _, .inl rfl, _, rfl, by omega, by rw [List.length_map]; omega, by rw [List.length_map]; omega, fun r r0 r1 => ?_⟩
  rw [List.length_map] at r1
  have lns : (ns.map PyData.int).length = ns.length := List.length_map _
  refine ⟨_, rfl, _, rfl, _, rfl, by simp, _, _, rfl, rfl, by simp; omega, _, rfl, ns ++ [r], by unfold eC; rw [List.map_append]; rfl, by simp; omega, fun ms pm pw => ?_⟩
  have lms := pm.length_eq
  rw [List.length_append, List.length_singleton] at lms
  refine ⟨_, rfl, _, .inl rfl, ?_⟩
  have cb := cutL_len (ns.map PyData.int) none (some (-1))
  rw [List.length_map] at cb
  refine ⟨_, rfl, _, rfl, _, rfl, _, rfl, _, .inr rfl, _, rfl, _, rfl, _, rfl, by simp, _, _, rfl, rfl, (by simp; omega), _, rfl, _, rfl, _, rfl, _, rfl, _, rfl, by simp, _, rfl, _, rfl, _, rfl, _, rfl, _, rfl, by simp, _, _, rfl, rfl, (by rw [List.length_singleton]; omega), _, rfl, by simp, ?_⟩
  refine ⟨_, rfl, _, rfl, ms, rfl, by omega, fun ss sp sm sl => ?_⟩
  refine ⟨_, rfl, _, .inl rfl, _, rfl, _, rfl, _, .inl rfl, _, rfl, by simp, _, rfl, _, rfl, by simp, _, rfl, _, _, rfl, rfl, (by simp; omega), _, rfl, _, rfl, by simp, _, rfl, _, rfl, r, rfl, ?_, _, rfl, by simp, _, rfl, by simp, _, _, rfl, rfl, by simp, ?_⟩
  · have h1 : r.natAbs < 2 ^ 10 := by omega
    by_cases h0 : r.natAbs = 0
    · rw [h0]; decide
    · have := (Nat.log2_lt h0).mpr h1
      omega
  obtain ⟨L8, e8⟩ : ∃ L8 : List PyData, L8 = [PyData.tuple (ns.map PyData.int).reverse, .list (ns.map .int), .tuple (ns.map .int ++ [.int r]), .tuple (ms.map .int), .tuple (cutL (ns.map .int) (some 1) none), .tuple [], .tuple (cutL (ns.map .int) none (some (-1)) ++ [.bool true])] ++ [.tuple (ss.map .int), .tuple [.int ((cs.map eC).length : Nat)], .tuple ([.int (-1)] ++ ns.map .int), .none, .tuple [.int r], .tuple [.str (toString r)]] := ⟨_, rfl⟩
  have l8 : L8.length = 13 := by rw [e8]; rfl
  show gdName 8 (.list ([PyData.tuple (ns.map PyData.int).reverse, .list (ns.map .int), .tuple (ns.map .int ++ [.int r]), .tuple (ms.map .int), .tuple (cutL (ns.map .int) (some 1) none), .tuple [], .tuple (cutL (ns.map .int) none (some (-1)) ++ [.bool true])] ++ [.tuple (ss.map .int), .tuple [.int ((cs.map eC).length : Nat)], .tuple ([.int (-1)] ++ ns.map .int), .none, .tuple [.int r], .tuple [.str (toString r)]])) _ _
  rw [← e8]
  have cin : ∀ {ks : List Int}, (∀ x ∈ ks, 0 ≤ x ∧ x < (cs.length : Int)) → ∀ d ∈ ks.map PyData.int, Tam 1 d := fun {ks} h d hd => by
    obtain ⟨x, hx, rfl⟩ := List.mem_map.mp hd
    have := h x hx
    exact .int (by omega) (by omega)
  have rin : 0 ≤ r ∧ r < (cs.length : Int) := ⟨r0, r1⟩
  have min : ∀ x ∈ ms, 0 ≤ x ∧ x < (cs.length : Int) := fun x hx => by
    rcases List.mem_append.mp (pm.mem_iff.mp hx) with h | h
    · exact nin x h
    · rw [List.mem_singleton.mp h]; exact rin
  have sin : ∀ x ∈ ss, 0 ≤ x ∧ x < (cs.length : Int) := fun x hx => min x ((sm x).mp hx)
  have tn := cin nin
  have tr : ∀ d ∈ [PyData.int r], Tam 1 d := fun d hd => by rw [List.mem_singleton.mp hd]; exact .int (by omega) (by omega)
  have tm : ∀ d ∈ [PyData.int (-1)], Tam 1 d := fun d hd => by rw [List.mem_singleton.mp hd]; exact .int (by decide) (by decide)
  have tt : ∀ d ∈ [PyData.bool true], Tam 1 d := fun d hd => by rw [List.mem_singleton.mp hd]; exact .bool _
  have ca := cutL_len (ns.map PyData.int) (some 1) none
  rw [List.length_map] at ca
  have x1 := twA_cut (ns.map PyData.int) (some 1) none
  have x2 := twA_cut (ns.map PyData.int) none (some (-1))
  have x3 := twStr (i := r) (by omega) (by omega)
  rw [twA_ints] at x1 x2
  have T8 : ∀ d ∈ L8, Tam 3 d ∧ tw d ≤ 3000 := fun d hd => by
    rw [e8] at hd
    simp only [List.cons_append, List.nil_append, List.mem_cons, List.not_mem_nil, or_false] at hd
    refine ⟨?_, ?_⟩
    · rcases hd with rfl | rfl | rfl | rfl | rfl | rfl | rfl | rfl | rfl | rfl | rfl | rfl | rfl
      · exact .tuple (by simp; omega) fun d hd => (tn d (List.mem_reverse.mp hd)).up (by decide)
      · exact .list (by simp; omega) fun d hd => (tn d hd).up (by decide)
      · exact .tuple (by simp; omega) fun d hd => (tamA tn tr d hd).up (by decide)
      · exact .tuple (by simp; omega) fun d hd => (cin min d hd).up (by decide)
      · exact .tuple (by omega) fun d hd => (tn d (cutL_sub hd)).up (by decide)
      · exact .tuple (by simp) fun _ h => nomatch h
      · exact .tuple (by simp; omega) fun d hd => (tamA (fun d hd => tn d (cutL_sub hd)) tt d hd).up (by decide)
      · exact .tuple (by simp; omega) fun d hd => (cin sin d hd).up (by decide)
      · exact .tuple (by simp) fun d hd => by rw [List.mem_singleton.mp hd]; exact .int (by omega) (by rw [List.length_map]; omega)
      · exact .tuple (by simp; omega) fun d hd => (tamA tm tn d hd).up (by decide)
      · exact .none
      · exact .tuple (by simp) fun d hd => (tr d hd).up (by decide)
      · exact .tuple (by simp) fun d hd => by rw [List.mem_singleton.mp hd]; exact tamStr _ _
    · rcases hd with rfl | rfl | rfl | rfl | rfl | rfl | rfl | rfl | rfl | rfl | rfl | rfl | rfl <;> (try simp only [tw, twA, twA_app, twA_ints, twA_rev]) <;> (try simp only [tw] at x3) <;> omega
  obtain ⟨T1, _⟩ := tamD b1 (by decide) (by decide) (by omega)
  obtain ⟨T2, _⟩ := tamD b2 (by decide) (by decide) (by omega)
  have TB : Tam 3 (eBh lo hi) := tam2 T1 T2
  have wl : tw (eBh lo hi) ≤ 1500 := by simp only [eBh, eC, tw, twA, twA_ints]; omega
  have TN : Tam 2 (eC ns) := tamTup (by rw [List.length_map]; omega) tn
  have wn : tw (eC ns) ≤ 2500 := by simp only [eC, tw, twA_ints]; omega
  have w1' : tw (.str "leaf") = 42 := by decide +kernel
  have w2' : tw (.str "node") = 42 := by decide +kernel
  have w3' : tw (.str "leave") = 52 := by decide +kernel
  have t3' : Tam 0 (.str "leave") := .str ⟨by decide +kernel, by rw [PyData.depth]; exact Nat.le_refl _, by rw [wide]⟩
  have three : ∀ {a b c : PyData} {x y z : Nat}, Tam 4 a → Tam 4 b → Tam 4 c → tw a ≤ x → tw b ≤ y → tw c ≤ z → Tam 5 (.tuple [a, b, c]) ∧ tw (.tuple [a, b, c]) ≤ x + y + z + 9 := fun {a b c x y z} ha hb hc wa wb wc => ⟨.tuple (by simp) fun d hd => by
    simp only [List.mem_cons, List.not_mem_nil, or_false] at hd
    rcases hd with rfl | rfl | rfl
    · exact ha
    · exact hb
    · exact hc, by simp only [tw, twA]; omega⟩
  have TL : Tam 4 (eT (.leaf lo hi ns)) ∧ tw (eT (.leaf lo hi ns)) ≤ 4100 := by
    obtain ⟨g1, g2⟩ := three (tam_leaf 4) (TB.up (by decide)) (TN.up (by decide)) (Nat.le_of_eq w1') wl wn
    refine ⟨.tuple (by simp) fun d hd => ?_, Nat.le_trans g2 (by decide)⟩
    simp only [List.mem_cons, List.not_mem_nil, or_false] at hd
    rcases hd with rfl | rfl | rfl
    · exact tam_leaf _
    · exact TB
    · exact TN.up (by decide)
  refine ⟨rfl, 4, rfl, by omega, by decide, by decide, fun y y0 y1 => ?_⟩
  refine ⟨_, rfl, _, _, rfl, rfl, _, rfl, ite2 (fun h => ?_) (fun h => ?_)⟩
  · refine ⟨_, rfl, rfl, _, rfl, lo, hi, wd, rfl, by omega, l1, l2, w0, w1, b1, b2, fun bd tbd wbd => ⟨_, rfl, _, rfl, by simp, ?_⟩⟩
    obtain ⟨g1, g2⟩ := three (tam_leaf 4) tbd (TN.up (by decide)) (Nat.le_of_eq w1') wbd wn
    exact q _ _ (by omega) (g1.up (by decide)) (Nat.le_trans g2 (by decide))
  refine ⟨_, rfl, _, _, rfl, rfl, _, rfl, ite2 (fun h => ?_) (fun h => ?_)⟩
  · refine ⟨_, rfl, _, rfl, _, rfl, by simp, _, rfl, _, rfl, _, rfl, _, rfl, by simp, _, rfl, _, rfl, _, rfl, by simp, _, rfl, _, rfl, _, .inr rfl, _, rfl, _, rfl, by simp, rfl, 5, rfl, by omega, by decide, by decide, fun s s0 s1 => ?_⟩
    obtain ⟨d, hd, e⟩ := at_mem (xs := [PyData.tuple [.str "leaf", eBh lo hi], .tuple [.str "leaf", eBh lo hi, eC ns, .int 0], .tuple [.str "leave", eBh lo hi, eC ns], .list [.str "leaf", eBh lo hi, eC ns], eC ns]) s0 s1
    refine ⟨_, _, _, rfl, rfl, e, q d _ (by omega) ?_ ?_⟩
    · simp only [List.mem_cons, List.not_mem_nil, or_false] at hd
      rcases hd with rfl | rfl | rfl | rfl | rfl
      · exact (tam2 (tam_leaf 3) TB).up (by decide)
      · refine (Tam.tuple (k := 3) (by simp) fun d hd => ?_).up (by decide)
        simp only [List.mem_cons, List.not_mem_nil, or_false] at hd
        rcases hd with rfl | rfl | rfl | rfl
        · exact tam_leaf _
        · exact TB
        · exact TN.up (by decide)
        · exact .int (by decide) (by decide)
      · exact (three (t3'.up (by decide)) (TB.up (by decide)) (TN.up (by decide)) (Nat.le_refl _) (Nat.le_refl _) (Nat.le_refl _)).1.up (by decide)
      · refine (Tam.list (k := 3) (by simp) fun d hd => ?_).up (by decide)
        simp only [List.mem_cons, List.not_mem_nil, or_false] at hd
        rcases hd with rfl | rfl | rfl
        · exact tam_leaf _
        · exact TB
        · exact TN.up (by decide)
      · exact TN.up (by decide)
    · have wl2 := wl
      have wn2 := wn
      simp only [List.mem_cons, List.not_mem_nil, or_false] at hd
      rcases hd with rfl | rfl | rfl | rfl | rfl <;> (try rw [tw]) <;> (try rw [twA]) <;> (try rw [twA]) <;> (try rw [twA]) <;> (try rw [twA]) <;> (try rw [twA]) <;> (try rw [show tw (PyData.int 0) = 60 from rfl]) <;> omega
  refine ⟨_, rfl, _, _, rfl, rfl, _, rfl, ite2 (fun h => ?_) (fun h => ?_)⟩
  · refine ⟨_, rfl, rfl, _, rfl, _, rfl, _, .inl rfl, _, rfl, by omega, by rw [l8]; decide, by rw [l8]; decide, fun s s0 s1 => ?_⟩
    obtain ⟨d, hd, e⟩ := at_mem s0 s1
    obtain ⟨td, wd'⟩ := T8 d hd
    refine ⟨_, _, _, rfl, rfl, e, _, rfl, _, rfl, _, rfl, _, rfl, by simp, ?_⟩
    obtain ⟨g1, g2⟩ := three (tam_leaf 4) (TB.up (by decide)) (td.up (by decide)) (Nat.le_of_eq w1') wl wd'
    exact q _ _ (by omega) (g1.up (by decide)) (Nat.le_trans g2 (by decide))
  refine ⟨_, rfl, _, rfl, _, rfl, _, rfl, by simp, _, rfl, _, rfl, _, rfl, by simp, _, rfl, _, rfl, _, rfl, by simp, rfl, 3, rfl, by decide, by omega, fun an j hj tan wan => ?_⟩
  refine ⟨_, rfl, _, rfl, by simp, _, rfl, by simp, ?_⟩
  refine ⟨_, rfl, rfl, 5, rfl, by omega, by decide, by decide, fun s s0 s1 => ?_⟩
  obtain ⟨d, hd, e⟩ := at_mem (xs := [PyData.tuple [.str "node", eBh lo hi, eT (.leaf lo hi ns), eT (.leaf lo hi ns)], .tuple [.str "node", eBh lo hi, eT (.leaf lo hi ns)], .tuple [.bool true, eBh lo hi, eC ns], an, .tuple [.str "leaf"]]) s0 s1
  refine ⟨_, _, _, rfl, rfl, e, q d _ (by omega) ?_ ?_⟩
  · simp only [List.mem_cons, List.not_mem_nil, or_false] at hd
    rcases hd with rfl | rfl | rfl | rfl | rfl
    · refine (Tam.tuple (k := 4) (by simp) fun d hd => ?_).up (by decide)
      simp only [List.mem_cons, List.not_mem_nil, or_false] at hd
      rcases hd with rfl | rfl | rfl | rfl
      · exact tam_node _
      · exact TB.up (by decide)
      · exact TL.1
      · exact TL.1
    · exact (three (tam_node 4) (TB.up (by decide)) TL.1 (Nat.le_refl _) (Nat.le_refl _) (Nat.le_refl _)).1.up (by decide)
    · exact (three (.bool true) (TB.up (by decide)) (TN.up (by decide)) (Nat.le_refl _) (Nat.le_refl _) (Nat.le_refl _)).1.up (by decide)
    · exact tan.up (by decide)
    · exact (tam1 (tam_leaf 3)).up (by decide)
  · have wl2 := wl
    have wn2 := wn
    have wL := TL.2
    have wan2 : tw an ≤ 28080 := wan
    simp only [List.mem_cons, List.not_mem_nil, or_false] at hd
    rcases hd with rfl | rfl | rfl | rfl | rfl
    · rw [tw, twA, twA, twA, twA, twA]; omega
    · rw [tw, twA, twA, twA, twA]; omega
    · rw [tw, twA, twA, twA, twA, show tw (PyData.bool true) = 10 from rfl]; omega
    · omega
    · rw [tw, twA, twA]; omega
/-! ### the law's own leaves, and all the numbers in them -/
def Tr.isLeaf : Tr → Bool
  | .leaf _ _ _ => true
  | .node _ _ _ _ => false
theorem flat_geT : ∀ {ls : List Tr}, (∀ v ∈ ls, 0 < v.nums.length) → ls.length ≤ (ls.flatMap Tr.nums).length
  | [], _ => Nat.le_refl _
  | u :: ls, h => by
    have := flat_geT (ls := ls) fun v hv => h v (List.mem_cons_of_mem _ hv)
    have := h u (List.mem_cons_self ..)
    rw [List.flatMap_cons, List.length_append, List.length_cons]
    omega
def Tr.lvs : Tr → List Tr
  | .leaf lo hi ns => [.leaf lo hi ns]
  | .node _ _ a b => a.lvs ++ b.lvs
theorem Tr.lvs_nums : ∀ t : Tr, t.lvs.flatMap Tr.nums = t.nums
  | .leaf lo hi ns => by simp [Tr.lvs, Tr.nums]
  | .node lo hi a b => by rw [Tr.lvs, List.flatMap_append, Tr.lvs_nums a, Tr.lvs_nums b]; rfl
theorem TrOk.lvs {cs : List (List Int)} {w : Nat} : ∀ {t : Tr}, TrOk cs w t → ∀ u ∈ t.lvs, TrOk cs w u ∧ u.isLeaf = true
  | .leaf lo hi ns, h, u, hu => by
    rw [Tr.lvs] at hu
    rw [List.mem_singleton.mp hu]
    exact ⟨h, rfl⟩
  | .node lo hi a b, h, u, hu => by
    cases h with
    | node h1 h2 _ =>
      rw [Tr.lvs] at hu
      rcases List.mem_append.mp hu with q | q
      · exact h1.lvs u q
      · exact h2.lvs u q
def eLf (u : Tr) : PyData := .tuple [eBh u.lo u.hi, eC u.nums]
theorem lvs_len {t : Tr} : ∀ {cs : List (List Int)} {w : Nat}, TrOk cs w t → t.lvs.length ≤ t.nums.length := fun {cs w} h => by
  rw [← Tr.lvs_nums t]
  exact flat_geT fun v hv => (h.lvs v hv).1.pos
def rLv (f : Nat) : List Sl → Nat → DQ → Prop := fun ds n K => ∃ (cs : List (List Int)) (w : Nat) (t : Tr), ds = [.d (eT t)] ∧ TrOk cs w t ∧ t.nums.length ≤ 50 ∧ t.dp ≤ f ∧ K (.list (t.lvs.map eLf)) n
def rLvS : Nat → List Sl → Nat → DQ → Prop
  | 0 => fun _ _ _ => False
  | f + 1 => rLv f
theorem lv_step (T : Tx K mg) {f k : Nat} (GS : FnOk P w K mg base CX0 k T.f_l_leaves T.d_l_leaves ["_law_node"] (spD (rLvS f))) :
    FnOk P w K mg base CX0 (k + 1) T.f_l_leaves T.d_l_leaves ["_law_node"] (spD (rLv f)) := by
  refine okD T.F_l_leaves sc_l_leaves _ (fun cdv A outer s H E hr => have hrS := hr; ⟨_, (pss_cons (ps_if (pt_cmpR op_eq (pe_ix (ix_tupK K) (pv 0) pe_int (fun _ _ => rfl)) pe_str (nomark _)) (pss_one (ps_ret (pe_lst (pa_cons (pe_tup (pa_cons (pe_ix (ix_tupK K) (pv 0) pe_int (fun _ _ => rfl)) (pa_cons (pe_ix (ix_tupK K) (pv 0) pe_int (fun _ _ => rfl)) pa_nil))) pa_nil)))) pss_nil)
      (pss_one (ps_ret (pe_op op_cat (pe_call GS hrS (by rfl) T.g_l_leaves T.F_l_leaves.kp T.b_l_leaves .nil pass0 (pa_cons (pe_ix (ix_tupK K) (pv 0) pe_int (fun _ _ => rfl)) pa_nil)) (pe_call GS hrS (by rfl) T.g_l_leaves T.F_l_leaves.kp T.b_l_leaves .nil pass0 (pa_cons (pe_ix (ix_tupK K) (pv 0) pe_int (fun _ _ => rfl)) pa_nil)))))),
      (ss_seq (ss_if (st_test (se_op sr_eqS (se_op sr_ixT (sv 0) se_int) se_str)) (ss_retSN (sn_lst (sa_cons (se_tup (sa_cons (se_op sr_ixT (sv 0) se_int) (sa_cons (se_op sr_ixT (sv 0) se_int) sa_nil))) sa_nil))) ss_next)
      (ss_retSN (sn_op srn_cat (se_call (sa_cons (se_op sr_ixT (sv 0) se_int) sa_nil)) (se_call (sa_cons (se_op sr_ixT (sv 0) se_int) sa_nil)))))⟩) (fun ds n Q ⟨_, _, _, e, _⟩ => by rw [e]; rfl) fun ds n Q ⟨cs, w, t, e, ht, tl, df, q⟩ => ?_
  subst e
  cases t with
  | leaf lo hi ns =>
    have es : decide (("leaf" : Str) = "leaf") = true := decide_eq_true rfl
    refine ⟨_, rfl, _, _, _, rfl, rfl, rfl, _, _, rfl, rfl, true, congrArg PyData.bool es, ?_⟩
    exact iteT ⟨_, rfl, _, _, _, rfl, rfl, rfl, _, rfl, _, _, _, rfl, rfl, rfl, _, rfl, by simp, _, rfl, by simp, q⟩
  | node lo hi a b =>
    have es : decide (("node" : Str) = "leaf") = false := by decide +kernel
    refine ⟨_, rfl, _, _, _, rfl, rfl, rfl, _, _, rfl, rfl, false, congrArg PyData.bool es, ?_⟩
    cases ht with
    | node h1 h2 h3 =>
      cases f with
      | zero => simp [Tr.dp] at df
      | succ f =>
        rw [Tr.dp] at df
        have la : a.nums.length ≤ 50 ∧ b.nums.length ≤ 50 := by
          have tl : (a.nums ++ b.nums).length ≤ 50 := tl
          rw [List.length_append] at tl
          omega
        have ga := lvs_len h1
        have gb := lvs_len h2
        refine iteN rfl ?_
        refine ⟨_, rfl, _, _, _, rfl, rfl, rfl, cs, w, a, rfl, h1, la.1, by omega, ?_⟩
        refine ⟨_, rfl, _, _, _, rfl, rfl, rfl, cs, w, b, rfl, h2, la.2, by omega, ?_⟩
        refine ⟨_, _, rfl, rfl, by rw [List.length_map, List.length_map]; omega, ?_⟩
        rw [← List.map_append]
        exact q
theorem lv_all (T : Tx K mg) {k : Nat} : ∀ f : Nat, FnOk P w K mg base CX0 (k + 1 + f) T.f_l_leaves T.d_l_leaves ["_law_node"] (spD (rLv f))
  | 0 => lv_step T (f := 0) ⟨fun vs H Q E h => by
      obtain ⟨_, _, _, _, _, _, _, _, _, h, _⟩ := h
      exact h.elim, fun A outer s H args us vs Q E hr e0 hb r h => by
      obtain ⟨_, _, _, _, _, _, _, _, _, h, _⟩ := h
      exact h.elim⟩
  | f + 1 => (lv_step (k := k + 1 + f) T (f := f + 1) (lv_all T (k := k) f)).mono (by omega)
theorem okd_l_leaves (T : Tx K mg) {k : Nat} : FnOk P w K mg base CX0 (k + 12) T.f_l_leaves T.d_l_leaves ["_law_node"] (spD (rLv 11)) := lv_all T (k := k) 11
def rUnder : List Sl → Nat → (List PyData → Nat → Prop) → Prop := fun ds n K => ∃ (cs : List (List Int)) (w : Nat) (t : Tr), ds = [.d (eT t)] ∧ TrOk cs w t ∧ t.nums.length ≤ 50 ∧ t.dp ≤ 11 ∧ K (t.nums.map .int) n
theorem okn_l_under (T : Tx K mg) {k : Nat} : FnOk P w K mg base CX0 (k + 13) T.f_l_under T.d_l_under ["_law_node"] (spN rUnder) := by
  refine okN T.F_l_under sc_l_under _ (fun cdv A outer s H E hr => ⟨_, (pss_cons (ps_set (i := 1) sc_l_under.nd rfl (.inl rfl) (pe_lst pa_nil))
      (pss_cons (ps_for PassesOwn.never rfl (pi_listK K (pe_call (okd_l_leaves T (k := k)) hr (by rfl) T.g_l_leaves T.F_l_leaves.kp T.b_l_leaves .nil pass0 (pa_cons (pv 0) pa_nil))) (pg_tupK K (n := 2) rfl (pgs_cons (pg_name (i := 2) sc_l_under.nd rfl (.inl rfl)) (pgs_cons (pg_name (i := 3) sc_l_under.nd rfl (.inl rfl)) pgs_nil))) (pss_one (ps_expr (pe_bm PySem.F.plainAttrs_list PySem.F.slot_list_extend PySem.F.type_list_extend (mt_extendT K) (pv 1) (pa_cons (pv 3) pa_nil)))))
      (pss_one (ps_ret (pv 1))))),
      (ss_seq (ss_asgO (sn_lst sa_nil))
      (ss_seq (ss_for (si_list (se_call (sa_cons (sv 0) sa_nil))) (sg_tup (sgs_cons sg_name (sgs_cons sg_name sgs_nil))) (ss_extT (sv 3)))
      ss_retO))⟩) (fun ds n Q ⟨_, _, _, e, _⟩ => by rw [e]; rfl) fun ds n Q ⟨cs, w, t, e, ht, tl, td, q⟩ => ?_
  subst e
  refine ⟨_, rfl, by simp, _, rfl, cs, w, t, rfl, ht, tl, td, ?_⟩
  refine ⟨_, rfl, fun i δ j => ∃ x2 x3 : Sl, δ = [.d (eT t), .o (((t.lvs.take i).flatMap Tr.nums).map .int), x2, x3] ∧ j = n, ⟨_, _, rfl, rfl⟩, fun i d δ j ed ⟨x2, x3, eδ, ej⟩ => ?_, fun δ j ⟨x2, x3, eδ, ej⟩ => ?_⟩
  · subst eδ ej
    rw [List.getElem?_map] at ed
    obtain ⟨u, eu, rfl⟩ := Option.map_eq_some_iff.mp ed
    have hi := (List.getElem?_eq_some_iff.mp eu).1
    have eu2 : t.lvs[i] = u := (List.getElem?_eq_some_iff.mp eu).2
    have et : t.lvs.take (i + 1) = t.lvs.take i ++ [u] := by rw [List.take_succ_eq_append_getElem hi, eu2]
    have ll : ((t.lvs.take (i + 1)).flatMap Tr.nums).length ≤ 50 := by
      have h : ((t.lvs.take (i + 1) ++ t.lvs.drop (i + 1)).flatMap Tr.nums).length = t.nums.length := by rw [List.take_append_drop, Tr.lvs_nums]
      rw [List.flatMap_append, List.length_append] at h
      omega
    have ef : (t.lvs.take (i + 1)).flatMap Tr.nums = (t.lvs.take i).flatMap Tr.nums ++ u.nums := by rw [et, List.flatMap_append]; simp
    rw [ef, List.length_append] at ll
    refine ⟨_, rfl, rfl, _, _, rfl, _, _, rfl, rfl, _, rfl, _, rfl, _, rfl, by rw [List.length_map, List.length_map]; omega, .d (eBh u.lo u.hi), .d (eC u.nums), ?_, rfl⟩
    rw [ef, List.map_append]
    rfl
  · subst eδ ej
    rw [List.length_map, List.take_length, Tr.lvs_nums]
    exact ⟨_, rfl, q⟩
/-! ### a tree with one part otherwise -/
def Tr.wt : Tr → Nat
  | .leaf _ _ ns => 1700 + 64 * ns.length
  | .node _ _ a b => 1700 + a.wt + b.wt
theorem Tr.wt_le {cs : List (List Int)} {w : Nat} {t : Tr} (h : TrOk cs w t) : t.wt ≤ 1700 * t.sz + 64 * t.nums.length := by
  induction h with
  | leaf _ _ _ => unfold Tr.wt Tr.sz Tr.nums; omega
  | node _ _ _ ih1 ih2 => unfold Tr.wt Tr.sz Tr.nums; rw [List.length_append]; omega
theorem tw_eT {cs : List (List Int)} {w : Nat} (hw : w ≤ 10) : ∀ {t : Tr}, TrOk cs w t → tw (eT t) ≤ t.wt
  | .leaf lo hi ns, h => by
    have b := h.box
    have l1 := b.l1
    have l2 := b.l2
    have w1 : tw (.str "leaf") = 42 := by decide +kernel
    rw [eT, tw, twA, twA, twA, twA, w1, eBh, tw, twA, twA, twA, eC, eC, tw, tw, twA_ints, twA_ints, eC, tw, twA_ints, Tr.wt]
    rw [Tr.lo] at l1
    rw [Tr.hi] at l2
    omega
  | .node lo hi a b, h => by
    have bb := h.box
    have l1 := bb.l1
    have l2 := bb.l2
    have w1 : tw (.str "node") = 42 := by decide +kernel
    cases h with
    | node h1 h2 _ =>
      have g1 := tw_eT hw h1
      have g2 := tw_eT hw h2
      rw [eT, tw, twA, twA, twA, twA, twA, w1, eBh, tw, twA, twA, twA, eC, eC, tw, tw, twA_ints, twA_ints, Tr.wt]
      rw [Tr.lo] at l1
      rw [Tr.hi] at l2
      omega
theorem tam_box {cs : List (List Int)} {w : Nat} {lo hi : List Int} (hw : w ≤ 10) (hc : ∀ x ∈ cs, x.length = w ∧ cIn 0 999 x) (b : BoxAt cs w lo hi) : Tam 3 (eBh lo hi) ∧ tw (eBh lo hi) ≤ 1500 := by
  obtain ⟨c1, c2⟩ := b.cin hc
  have l1 := b.l1
  have l2 := b.l2
  obtain ⟨T1, _⟩ := tamD c1 (by decide) (by decide) (by omega)
  obtain ⟨T2, _⟩ := tamD c2 (by decide) (by decide) (by omega)
  exact ⟨tam2 T1 T2, by simp only [eBh, eC, tw, twA, twA_ints]; omega⟩
theorem tam_eT {cs : List (List Int)} {w : Nat} (hw : w ≤ 10) (c1 : cs.length ≤ 1000) (hc : ∀ x ∈ cs, x.length = w ∧ cIn 0 999 x) : ∀ {t : Tr}, TrOk cs w t → t.nums.length ≤ 100 → Tam (t.dp + 4) (eT t)
  | .leaf lo hi ns, h, hl => by
    have tb := (tam_box hw (colsAt_ok hc h.inn) h.box).1
    cases h with
    | leaf _ ni _ =>
      refine .tuple (by simp) fun d hd => ?_
      simp only [List.mem_cons, List.not_mem_nil, or_false] at hd
      rcases hd with rfl | rfl | rfl
      · exact tam_leaf _
      · exact tb.up (by omega)
      · refine (tamTup (k := 1) (by rw [List.length_map]; exact hl) fun d hd => ?_).up (by omega)
        obtain ⟨x, hx, rfl⟩ := List.mem_map.mp hd
        have := ni x hx
        exact .int (by omega) (by omega)
  | .node lo hi a b, h, hl => by
    have tb := (tam_box hw (colsAt_ok hc h.inn) h.box).1
    cases h with
    | node h1 h2 _ =>
      have hl : (a.nums ++ b.nums).length ≤ 100 := hl
      rw [List.length_append] at hl
      have g1 := tam_eT hw c1 hc h1 (by omega)
      have g2 := tam_eT hw c1 hc h2 (by omega)
      refine .tuple (by simp) fun d hd => ?_
      simp only [List.mem_cons, List.not_mem_nil, or_false] at hd
      rcases hd with rfl | rfl | rfl | rfl
      · exact tam_node _
      · exact tb.up (by omega)
      · exact g1.up (by rw [Tr.dp]; omega)
      · exact g2.up (by rw [Tr.dp]; omega)
def rBt (f : Nat) : List Sl → Nat → DQ → Prop := fun ds n K => ∃ (cs : List (List Int)) (t : Tr) (wd : Nat), ds = [.l, .d (eP cs), .d (eT t)] ∧ n + 2 * f < 700000 ∧ 0 < cs.length ∧ cs.length ≤ 40 ∧ 0 < wd ∧ wd ≤ 10 ∧ (∀ x ∈ cs, x.length = wd ∧ cIn 0 999 x) ∧ TrOk cs wd t ∧ t.nums.length ≤ 40 ∧ t.dp ≤ f ∧ f ≤ 10 ∧ ∀ d j, j ≤ n + 300 + 2 * f → Tam (f + 8) d → tw d ≤ 2 * t.wt + 40000 → K d j
def rBtS : Nat → List Sl → Nat → DQ → Prop
  | 0 => fun _ _ _ => False
  | f + 1 => rBt f
set_option maxHeartbeats 1000000 in
theorem bt_step (T : Tx K mg) {f k : Nat} (GS : FnOk P w K mg base CX0 (k + 13) T.f_l_bent T.d_l_bent ["_law_left_here", "_law_palette_here", "_law_node"] (spD (rBtS f))) :
    FnOk P w K mg base CX0 (k + 14) T.f_l_bent T.d_l_bent ["_law_left_here", "_law_palette_here", "_law_node"] (spD (rBt f)) := by
  refine okD T.F_l_bent sc_l_bent _ (fun cdv A outer s H E hr => have hrS := hr; ⟨_, (pss_cons (ps_if (pt_cmpR op_eq (pe_ix (ix_tupK K) (pv 2) pe_int (fun _ _ => rfl)) pe_str (nomark _)) (pss_one (ps_ret (pe_call (okd_l_leaf_bent T (k := k + 4)) hr (by rfl) T.g_l_leaf_bent T.F_l_leaf_bent.kp T.b_l_leaf_bent .nil pass0 (pa_cons (pv 0) (pa_cons (pv 1) (pa_cons (pv 2) pa_nil)))))) pss_nil)
      (pss_cons (ps_if (pt_cmpR op_gt (pe_call (okd_l_pick T (k := k + 11)) hr (by rfl) T.g_l_pick T.F_l_pick.kp T.b_l_pick .nil pass0 (pa_cons (pv 0) (pa_cons pe_int pa_nil))) pe_int (nomark _)) (pss_cons (ps_set (i := 3) sc_l_bent.nd rfl (.inl rfl) (pe_op op_add pe_int (pe_call (okd_l_pick T (k := k + 11)) hr (by rfl) T.g_l_pick T.F_l_pick.kp T.b_l_pick .nil pass0 (pa_cons (pv 0) (pa_cons pe_int pa_nil)))))
      (pss_one (ps_ret (pe_op (op_catAK K) (pe_op (op_catAK K) (pe_slice (sl_tupAK K) (pv 2) po_none (po_some (pv 3))) (pe_tup (pa_cons (pe_call GS hrS (by rfl) T.g_l_bent T.F_l_bent.kp T.b_l_bent .nil pass0 (pa_cons (pv 0) (pa_cons (pv 1) (pa_cons (pe_ix (ix_tupK K) (pv 2) (pv 3) (fun _ _ => rfl)) pa_nil)))) pa_nil))) (pe_slice (sl_tupAK K) (pv 2) (po_some (pe_op op_add (pv 3) pe_int)) po_none))))) pss_nil)
      (pss_cons (ps_set (i := 4) sc_l_bent.nd rfl (.inl rfl) (pe_lst (pa_cons (pe_op (op_catAK K) (pe_slice (sl_tupAK K) (pv 2) po_none (po_some pe_int)) (pe_tup (pa_cons (pe_ix (ix_tupK K) (pv 2) pe_int (fun _ _ => rfl)) (pa_cons (pe_ix (ix_tupK K) (pv 2) pe_int (fun _ _ => rfl)) pa_nil)))) (pa_cons (pe_slice (sl_tupAK K) (pv 2) po_none (po_some pe_int)) (pa_cons (pe_op (op_catAK K) (pv 2) (pe_tup (pa_cons pe_int pa_nil))) (pa_cons (pe_callTy (list_K K) (by rfl) T.z_list (by decide +kernel) (pa_cons (pv 2) pa_nil)) (pa_cons (pe_op (op_catAK K) (pe_tup (pa_cons pe_str pa_nil)) (pe_slice (sl_tupAK K) (pv 2) (po_some pe_int) po_none)) (pa_cons (pe_ix (ix_tupK K) (pv 2) pe_int (fun _ _ => rfl)) pa_nil))))))))
      (pss_cons (ps_set (i := 4) sc_l_bent.nd rfl (.inl rfl) (pe_op op_cat (pv 4) (pe_lst (pa_cons (pe_op (op_catAK K) (pe_slice (sl_tupAK K) (pv 2) po_none (po_some pe_int)) (pe_tup (pa_cons (pe_ix (ix_tupK K) (pv 2) pe_int (fun _ _ => rfl)) (pa_cons (pe_ix (ix_tupK K) (pv 2) pe_int (fun _ _ => rfl)) pa_nil)))) (pa_cons (pe_op (op_catAK K) (pe_op (op_catAK K) (pe_slice (sl_tupAK K) (pv 2) po_none (po_some pe_int)) (pe_tup (pa_cons (pe_call (okd_l_box_bent T (k := k + 9)) hr (by rfl) T.g_l_box_bent T.F_l_box_bent.kp T.b_l_box_bent .nil pass0 (pa_cons (pv 0) (pa_cons (pe_ix (ix_tupK K) (pv 2) pe_int (fun _ _ => rfl)) pa_nil))) pa_nil))) (pe_slice (sl_tupAK K) (pv 2) (po_some pe_int) po_none)) pa_nil)))))
      (pss_cons (ps_set (i := 4) sc_l_bent.nd rfl (.inl rfl) (pe_op op_cat (pv 4) (pe_lst (pa_cons (pe_tup (pa_cons pe_str (pa_cons (pe_ix (ix_tupK K) (pv 2) pe_int (fun _ _ => rfl)) (pa_cons (pe_callTy (tuple_K K) (by rfl) T.z_tuple (by decide +kernel) (pa_cons (pe_callB (cr_sortedIK K) (by rfl) T.z_sorted (by decide +kernel) (pa_cons (pe_call (okn_l_under T (k := k)) hr (by rfl) T.g_l_under T.F_l_under.kp T.b_l_under .nil pass0 (pa_cons (pv 2) pa_nil)) pa_nil)) pa_nil)) pa_nil)))) (pa_cons (pe_op (op_catAK K) (pe_tup (pa_cons pe_str pa_nil)) (pe_slice (sl_tupAK K) (pv 2) (po_some pe_int) po_none)) (pa_cons (pe_call (okd_l_any T (k := k + 5)) hr (by rfl) T.g_l_any T.F_l_any.kp T.b_l_any .nil pass0 (pa_cons (pv 0) (pa_cons pe_int pa_nil))) pa_nil))))))
      (pss_one (ps_ret (pe_ix (ix_listK K) (pv 4) (pe_call (okd_l_pick T (k := k + 11)) hr (by rfl) T.g_l_pick T.F_l_pick.kp T.b_l_pick .nil pass0 (pa_cons (pv 0) (pa_cons (pe_callB (len_K K) (by rfl) T.z_len PySem.boot_len (pa_cons (pv 4) pa_nil)) pa_nil))) (fun _ _ => rfl))))))))),
      (ss_seq (ss_if (st_test (se_op sr_eqS (se_op sr_ixT (sv 2) se_int) se_str)) (ss_ret (se_call (sa_consL (sa_cons (sv 1) (sa_cons (sv 2) sa_nil))))) ss_next)
      (ss_seq (ss_if (st_test (se_op sr_bool (se_call (sa_consL (sa_cons se_int sa_nil))) se_int)) (ss_seq (ss_asg (se_op sr_int se_int (se_call (sa_consL (sa_cons se_int sa_nil)))) sg_name)
      (ss_ret (se_op sr_catA (se_op sr_catA (se_slT (sv 2) so_none (so_some (sv 3))) (se_tup (sa_cons (se_call (sa_consL (sa_cons (sv 1) (sa_cons (se_op sr_ixT (sv 2) (sv 3)) sa_nil)))) sa_nil))) (se_slT (sv 2) (so_some (se_op sr_int (sv 3) se_int)) so_none)))) ss_next)
      (ss_seq (ss_asg (SN.se (sn_lst (sa_cons (se_op sr_catA (se_slT (sv 2) so_none (so_some se_int)) (se_tup (sa_cons (se_op sr_ixT (sv 2) se_int) (sa_cons (se_op sr_ixT (sv 2) se_int) sa_nil)))) (sa_cons (se_slT (sv 2) so_none (so_some se_int)) (sa_cons (se_op sr_catA (sv 2) (se_tup (sa_cons se_int sa_nil))) (sa_cons (SN.se (sn_cb scn_list (sa_cons (sv 2) sa_nil))) (sa_cons (se_op sr_catA (se_tup (sa_cons se_str sa_nil)) (se_slT (sv 2) (so_some se_int) so_none)) (sa_cons (se_op sr_ixT (sv 2) se_int) sa_nil)))))))) sg_name)
      (ss_seq (ss_asg (SN.se (sn_op srn_cat (sv 4) (SN.se (sn_lst (sa_cons (se_op sr_catA (se_slT (sv 2) so_none (so_some se_int)) (se_tup (sa_cons (se_op sr_ixT (sv 2) se_int) (sa_cons (se_op sr_ixT (sv 2) se_int) sa_nil)))) (sa_cons (se_op sr_catA (se_op sr_catA (se_slT (sv 2) so_none (so_some se_int)) (se_tup (sa_cons (se_call (sa_consL (sa_cons (se_op sr_ixT (sv 2) se_int) sa_nil))) sa_nil))) (se_slT (sv 2) (so_some se_int) so_none)) sa_nil)))))) sg_name)
      (ss_seq (ss_asg (SN.se (sn_op srn_cat (sv 4) (SN.se (sn_lst (sa_cons (se_tup (sa_cons se_str (sa_cons (se_op sr_ixT (sv 2) se_int) (sa_cons (se_cb sc_tup (sa_cons (SN.se (sn_cb scn_sortI (sa_cons (SN.se (sn_call (sa_cons (sv 2) sa_nil))) sa_nil))) sa_nil)) sa_nil)))) (sa_cons (se_op sr_catA (se_tup (sa_cons se_str sa_nil)) (se_slT (sv 2) (so_some se_int) so_none)) (sa_cons (se_call (sa_consL (sa_cons se_int sa_nil))) sa_nil))))))) sg_name)
      (ss_ret (se_op sr_ixL (sv 4) (se_call (sa_consL (sa_cons (se_cb sc_len (sa_cons (sv 4) sa_nil)) sa_nil))))))))))⟩) (fun ds n Q ⟨_, _, _, e, _⟩ => by rw [e]; rfl) fun ds n Q ⟨cs, t, wd, e, nb, c0, c1, w0, w1, ok, ht, tl, td, f1, q⟩ => ?_
  subst e
  have hwt := tw_eT w1 ht
  cases t with
  | leaf lo hi ns =>
    have bx := ht.box
    have bc := bx.cin (colsAt_ok ok ht.inn)
    cases ht with
    | leaf n0 ni _ =>
      refine ⟨_, rfl, _, _, _, rfl, rfl, at0 (by decide) rfl, _, _, rfl, rfl, true, rfl, iteT ?_⟩
      refine ⟨rfl, _, rfl, _, rfl, cs, lo, hi, ns, wd, rfl, by omega, c0, c1, bx.l1, bx.l2, w0, w1, bc.1, bc.2, n0, tl, ni, fun d j hj td wd' => q d j (by omega) (td.up (by omega)) (by omega)⟩
  | node lo hi a b =>
    have bx := ht.box
    have bc := bx.cin (colsAt_ok ok ht.inn)
    have ht0 := ht
    have es : decide (("node" : Str) = "leaf") = false := by decide +kernel
    obtain ⟨TB, wl⟩ : Tam 3 (eBh lo hi) ∧ tw (eBh lo hi) ≤ 1500 := tam_box w1 (colsAt_ok ok ht.inn) ht.box
    cases ht with
    | node h1 h2 _ =>
      have tl2 : (a.nums ++ b.nums).length ≤ 40 := tl
      rw [List.length_append] at tl2
      cases f with
      | zero => simp [Tr.dp] at td
      | succ f =>
      rw [Tr.dp] at td
      have Ta := tam_eT w1 (by omega) ok h1 (by omega)
      have Tb := tam_eT w1 (by omega) ok h2 (by omega)
      have wa := tw_eT w1 h1
      have wb := tw_eT w1 h2
      have ew : (Tr.node lo hi a b).wt = 1700 + a.wt + b.wt := rfl
      rw [ew] at q
      refine ⟨_, rfl, _, _, _, rfl, rfl, at0 (by decide) rfl, _, _, rfl, rfl, false, congrArg PyData.bool es, iteF ?_⟩
      refine ⟨rfl, 4, rfl, by omega, by decide, by decide, fun y y0 y1 => ⟨_, _, rfl, rfl, _, rfl, ite2 (fun h => ?_) (fun h => ?_)⟩⟩
      · refine ⟨rfl, 2, rfl, by omega, by decide, by decide, fun z z0 z1 => ⟨_, _, rfl, rfl, ?_⟩⟩
        have ez : z = 0 ∨ z = 1 := by omega
        rcases ez with rfl | rfl
        · refine ⟨_, rfl, _, rfl, _, rfl, _, rfl, rfl, _, rfl, _, rfl, _, rfl, _, _, _, rfl, rfl, at0 (by decide) rfl, cs, a, wd, rfl, by omega, c0, c1, w0, w1, ok, h1, by omega, by omega, by omega, fun d j hj td' wd' => ⟨_, rfl, by simp, _, _, rfl, rfl, Nat.le_of_ble_eq_true rfl, _, rfl, _, rfl, _, _, rfl, rfl, _, rfl, _, rfl, _, _, rfl, rfl, Nat.le_of_ble_eq_true rfl, ?_⟩⟩
          refine q (.tuple [.str "node", eBh lo hi, d, eT b]) j (by omega) (.tuple (by simp) fun x hx => ?_) ?_
          · simp only [List.mem_cons, List.not_mem_nil, or_false] at hx
            rcases hx with rfl | rfl | rfl | rfl
            · exact tam_node _
            · exact TB.up (by omega)
            · exact td'.up (by omega)
            · exact Tb.up (by omega)
          · have w1' : tw (.str "node") = 42 := by decide +kernel
            rw [tw, twA, twA, twA, twA, twA, w1']
            omega
        · refine ⟨_, rfl, _, rfl, _, rfl, _, rfl, rfl, _, rfl, _, rfl, _, rfl, _, _, _, rfl, rfl, at0 (by decide) rfl, cs, b, wd, rfl, by omega, c0, c1, w0, w1, ok, h2, by omega, by omega, by omega, fun d j hj td' wd' => ⟨_, rfl, by simp, _, _, rfl, rfl, Nat.le_of_ble_eq_true rfl, _, rfl, _, rfl, _, _, rfl, rfl, _, rfl, _, rfl, _, _, rfl, rfl, Nat.le_of_ble_eq_true rfl, ?_⟩⟩
          refine q (.tuple [.str "node", eBh lo hi, eT a, d]) j (by omega) (.tuple (by simp) fun x hx => ?_) ?_
          · simp only [List.mem_cons, List.not_mem_nil, or_false] at hx
            rcases hx with rfl | rfl | rfl | rfl
            · exact tam_node _
            · exact TB.up (by omega)
            · exact Ta.up (by omega)
            · exact td'.up (by omega)
          · have w1' : tw (.str "node") = 42 := by decide +kernel
            rw [tw, twA, twA, twA, twA, twA, w1']
            omega
      · refine ⟨_, rfl, _, rfl, _, rfl, _, rfl, _, _, _, rfl, rfl, at0 (by decide) rfl, _, rfl, _, _, _, rfl, rfl, at0 (by decide) rfl, _, rfl, by simp, _, _, rfl, rfl, Nat.le_of_ble_eq_true rfl, _, rfl, _, rfl, _, rfl, _, rfl, _, rfl, by simp, _, _, rfl, rfl, Nat.le_of_ble_eq_true rfl, _, rfl, _, rfl, _, .inr rfl, _, rfl, by simp, _, rfl, _, rfl, _, rfl, _, _, rfl, rfl, Nat.le_of_ble_eq_true rfl, _, rfl, _, _, _, rfl, rfl, at0 (by decide) rfl, _, rfl, by simp, ?_⟩
        refine ⟨_, rfl, _, rfl, _, rfl, _, rfl, _, rfl, _, _, _, rfl, rfl, at0 (by decide) rfl, _, rfl, _, _, _, rfl, rfl, at0 (by decide) rfl, _, rfl, by simp, _, _, rfl, rfl, Nat.le_of_ble_eq_true rfl, _, rfl, _, rfl, _, rfl, rfl, _, rfl, _, _, _, rfl, rfl, at0 (by decide) rfl, lo, hi, wd, rfl, by omega, bx.l1, bx.l2, w0, w1, bc.1, bc.2, fun bd tbd wbd => ?_⟩
        refine ⟨_, rfl, by simp, _, _, rfl, rfl, Nat.le_of_ble_eq_true rfl, _, rfl, _, rfl, _, rfl, _, _, rfl, rfl, Nat.le_of_ble_eq_true rfl, _, rfl, by simp, _, _, rfl, rfl, by simp, ?_⟩
        refine ⟨_, rfl, _, rfl, _, _, _, rfl, rfl, at0 (by decide) rfl, _, rfl, cs, wd, .node lo hi a b, rfl, ht0, by omega, by rw [Tr.dp]; omega, ?_⟩
        refine ⟨_, rfl, a.nums ++ b.nums, rfl, fun ks pk sk => ⟨_, rfl, _, .inl rfl, _, rfl, by simp, _, rfl, by simp, _, rfl, _, rfl, _, rfl, _, _, rfl, rfl, Nat.le_of_ble_eq_true rfl, rfl, 3, rfl, by decide, by omega, fun an j hj tan wan => ?_⟩⟩
        refine ⟨_, rfl, by simp, _, _, rfl, rfl, by simp, ?_⟩
        refine ⟨_, rfl, rfl, _, rfl, _, rfl, _, .inl rfl, _, rfl, by omega, by simp, by simp, fun s s0 s1 => ?_⟩
        have lk := pk.length_eq
        rw [List.length_append] at lk
        obtain ⟨d, hd, e⟩ := at_mem (xs := [PyData.tuple [.str "node", eBh lo hi, eT b, eT a], .tuple [.str "node", eBh lo hi, eT a], .tuple [.str "node", eBh lo hi, eT a, eT b, .int 0], .list [.str "node", eBh lo hi, eT a, eT b], .tuple [.str "leaf", eBh lo hi, eT a, eT b], eT a, .tuple [.str "node", eBh lo hi, eT a, eT a], .tuple [.str "node", bd, eT a, eT b], .tuple [.str "leaf", eBh lo hi, .tuple (ks.map .int)], .tuple [.str "nodes", eBh lo hi, eT a, eT b], an]) s0 s1
        have T1 := tam_node (f + 8)
        have T2 := tam_leaf (f + 8)
        have T3 : Tam (f + 8) (.str "nodes") := .str ⟨by decide +kernel, by rw [PyData.depth]; exact Nat.le_refl _, by rw [wide]⟩
        have TB' : Tam (f + 8) (eBh lo hi) := TB.up (by omega)
        have Ta' : Tam (f + 8) (eT a) := Ta.up (by omega)
        have Tb' : Tam (f + 8) (eT b) := Tb.up (by omega)
        have Td' : Tam (f + 8) bd := tbd.up (by omega)
        have T0 : Tam (f + 8) (.int 0) := .int (by decide) (by decide)
        have TK : Tam (f + 8) (.tuple (ks.map .int)) := by
          refine (tamTup (k := 1) (by rw [List.length_map]; omega) fun d hd => ?_).up (by omega)
          obtain ⟨x, hx, rfl⟩ := List.mem_map.mp hd
          have := ht0.inn x (pk.mem_iff.mp hx)
          exact .int (by omega) (by omega)
        have v1 : tw (.str "node") = 42 := by decide +kernel
        have v2 : tw (.str "leaf") = 42 := by decide +kernel
        have v3 : tw (.str "nodes") = 52 := by decide +kernel
        have v4 : tw (.int 0) = 60 := rfl
        have v5 : tw (.tuple (ks.map .int)) ≤ 2500 := by rw [tw, twA_ints]; omega
        have wan2 : tw an ≤ 28080 := wan
        refine ⟨_, _, _, rfl, rfl, e, q d (j + 1) (by omega) ?_ ?_⟩
        · simp only [List.mem_cons, List.not_mem_nil, or_false] at hd
          rcases hd with rfl | rfl | rfl | rfl | rfl | rfl | rfl | rfl | rfl | rfl | rfl
          case inr.inr.inr.inr.inr.inl => exact Ta'.up (by omega)
          case inr.inr.inr.inr.inr.inr.inr.inr.inr.inr => exact tan.up (by omega)
          all_goals first | refine Tam.tuple (k := f + 8) (by simp) fun x hx => ?_ | refine Tam.list (k := f + 8) (by simp) fun x hx => ?_
          all_goals
            simp only [List.mem_cons, List.not_mem_nil, or_false] at hx
            rcases hx with rfl | rfl | rfl | rfl | rfl <;> assumption
        · simp only [List.mem_cons, List.not_mem_nil, or_false] at hd
          rcases hd with rfl | rfl | rfl | rfl | rfl | rfl | rfl | rfl | rfl | rfl | rfl
          case inr.inr.inr.inr.inr.inl => omega
          case inr.inr.inr.inr.inr.inr.inr.inr.inr.inr => omega
          all_goals
            rw [tw]
            repeat rw [twA]
            omega
theorem bt_all (T : Tx K mg) {k : Nat} : ∀ f : Nat, FnOk P w K mg base CX0 (k + 14 + f) T.f_l_bent T.d_l_bent ["_law_left_here", "_law_palette_here", "_law_node"] (spD (rBt f))
  | 0 => bt_step T (f := 0) FnOk.no
  | f + 1 => (bt_step (k := k + 1 + f) T (f := f + 1) (by
      have := bt_all T (k := k) f
      have e : k + 1 + f + 13 = k + 14 + f := by omega
      rw [e]
      exact this)).mono (by omega)
theorem okd_l_bent (T : Tx K mg) {k : Nat} : FnOk P w K mg base CX0 (k + 24) T.f_l_bent T.d_l_bent ["_law_left_here", "_law_palette_here", "_law_node"] (spD (rBt 10)) := bt_all T (k := k) 10
/-! ### both looks at a thing are one -/
theorem tamP {cs : List (List Int)} {w : Nat} (c1 : cs.length ≤ 40) (w1 : w ≤ 10) (ok : ∀ x ∈ cs, x.length = w ∧ cIn 0 999 x) : Tam 3 (eP cs) ∧ tw (eP cs) ≤ 30000 := by
  have h : ∀ d ∈ cs.map eC, Tam 2 d ∧ tw d ≤ 623 := fun d hd => by
    obtain ⟨x, hx, rfl⟩ := List.mem_map.mp hd
    obtain ⟨l, c⟩ := ok x hx
    exact ⟨(tamD c (by decide) (by decide) (by omega)).1, by simp only [eC, tw, twA_ints]; omega⟩
  refine ⟨.list (by rw [List.length_map]; omega) fun d hd => (h d hd).1, ?_⟩
  have := twA_le fun d hd => (h d hd).2
  rw [List.length_map] at this
  show twA (cs.map eC) + 3 ≤ _
  have : (623 + 2) * cs.length ≤ 25000 := by omega
  omega
def rAsDue : List Sl → Nat → DQ → Prop := fun ds n K => ∃ (cs : List (List Int)) (mo : Int) (wd : Nat) (d : PyData), ds = [.d (eP cs), .d (.int mo), .d d] ∧ 0 < cs.length ∧ cs.length ≤ 40 ∧ 0 < wd ∧ wd ≤ 10 ∧ (∀ x ∈ cs, x.length = wd ∧ cIn 0 999 x) ∧ Tam 18 d ∧ tw d ≤ 2000000 ∧ K (.bool true) n
set_option maxHeartbeats 1000000 in
theorem oks_l_as_due (T : Tx K mg) {k : Nat} : FnS P w K mg base (k + 47) T.f_l_as_due T.d_l_as_due ["_law_palette_here", "_law_most", "_law_thing"] (spD rAsDue) := by
  refine okDS T.F_l_as_due sc_l_as_due _ (fun cdv A outer s H E hA hr => ⟨_, (pss_cons (ps_set (i := 3) sc_l_as_due.nd rfl (.inl rfl) (pe_callTy (cr_strD2 K hA hr.units) (by rfl) T.z_str (by decide +kernel) (pa_cons (pe_tup (pa_cons (pv 0) (pa_cons (pv 2) pa_nil))) pa_nil)))
      (pss_cons (ps_set (i := 4) sc_l_as_due.nd rfl (.inl rfl) (pe_call (okd_is_tree T (k := k)) hr (by rfl) T.g_is_tree T.F_is_tree.kp T.b_is_tree .nil pass0 (pa_cons (pv 0) (pa_cons (pv 1) (pa_cons (pv 2) pa_nil)))))
      (pss_cons (ps_if (PW.pt (pw_or (pt_not (pt_val (pe_callB (call_isiK1 K) (by rfl) T.z_isinstance (by decide +kernel) (pa_cons (pv 4) (pa_cons (pe_bltn (v := .ty "bool") (by rfl) T.z_bool (by decide +kernel) rfl) pa_nil))))) (pw_or1 (pt_cmpR op_ne (pv 4) (pe_call (okd_l_tree_right T (k := k + 20)) hr (by rfl) T.g_l_tree_right T.F_l_tree_right.kp T.b_l_tree_right .nil pass0 (pa_cons (pv 0) (pa_cons (pv 1) (pa_cons (pv 2) pa_nil)))) (nomark _))))) (pss_one (ps_ret pe_bl)) pss_nil)
      (pss_one (ps_ret (pe_cmpR op_eq (pe_callTy (cr_strD2 K hA hr.units) (by rfl) T.z_str (by decide +kernel) (pa_cons (pe_tup (pa_cons (pv 0) (pa_cons (pv 2) pa_nil))) pa_nil)) (pv 3) (nomark _))))))),
      (ss_seq (ss_asg (se_cb sc_str2 (sa_cons (se_tup (sa_cons (sv 0) (sa_cons (sv 2) sa_nil))) sa_nil)) sg_name)
      (ss_seq (ss_asg (se_call (sa_cons (sv 0) (sa_cons (sv 1) (sa_cons (sv 2) sa_nil)))) sg_name)
      (ss_seq (ss_if (st_or (st_not (st_B (se_isi (sv 4)))) (st_test (se_op sr_neB (sv 4) (se_call (sa_cons (sv 0) (sa_cons (sv 1) (sa_cons (sv 2) sa_nil))))))) (ss_ret se_bl) ss_next)
      (ss_ret (se_op sr_eqS (se_cb sc_str2 (sa_cons (se_tup (sa_cons (sv 0) (sa_cons (sv 2) sa_nil))) sa_nil)) (sv 3))))))⟩) (fun ds n Q ⟨_, _, _, _, e, _⟩ => by rw [e]; rfl) fun ds n Q ⟨cs, mo, wd, d, e, c0, c1, w0, w1, ok, td, wt, q⟩ => ?_
  subst e
  obtain ⟨tp, wp⟩ := tamP c1 w1 ok
  have T2 : Tam 19 (.tuple [eP cs, d]) := tam2 (tp.up (by decide)) td
  have g1 := T2.shw
  have wt2 : tw (.tuple [eP cs, d]) ≤ 3000000 := by rw [tw, twA, twA, twA]; omega
  have hst : ∀ K : PyData → Prop, K (.str (PyData.tuple [eP cs, d]).shown) → rdStr2 [.tuple [eP cs, d]] K := fun K h => ⟨_, rfl, ⟨_, .inr rfl⟩, g1.a, g1.b, Nat.le_trans T2.sh.2.1 (by decide), Nat.le_trans (Nat.le_trans g1.c wt2) (by decide), h⟩
  have sd := td.sh.mono (show 18 ≤ 20 by decide)
  refine ⟨_, rfl, _, rfl, _, rfl, by simp, _, rfl, hst _ ?_⟩
  refine ⟨_, rfl, _, rfl, _, rfl, cs, mo, d, wd, rfl, c0, by omega, w0, w1, ok, sd, fun b hb => ?_⟩
  refine ⟨_, rfl, true, kBl (by decide +kernel), _, rfl, iteF ⟨_, rfl, _, rfl, _, rfl, _, rfl, cs, mo, d, wd, rfl, c0, by omega, w0, w1, ok, sd, fun b2 hb2 => ?_⟩⟩
  have eb : b = b2 := (cdec_of hb).trans (cdec_of hb2).symm
  subst eb
  refine ⟨_, _, rfl, rfl, false, congrArg PyData.bool (by simp), iteF ?_⟩
  refine ⟨_, rfl, _, rfl, _, rfl, by simp, _, rfl, hst _ ⟨_, rfl, _, _, rfl, rfl, ?_⟩⟩
  show Q (.bool (decide ((PyData.tuple [eP cs, d]).shown = (PyData.tuple [eP cs, d]).shown))) n
  rw [decide_eq_true rfl]
  exact q
/-! ### a law that goes through its numbers -/
def spLaw (K : PySem.W.Frag) : Sp := fun vs H Q _ => ∃ (a : Addr) (ns : List Int), vs = [.ref a] ∧ SqL K H a (ns.map V.int) ∧ LamX.Tabs TabCtx.T H ∧ ns.length ≤ 63 ∧ ∀ H', Q (.bl true) H'
theorem law_all {K : PySem.W.Frag} {a : Addr} {ns : List Int} {c m : Nat} {tb : TS} {f : DS} {H : Hp} {σ : L2.St} {D : Ends} {E : XK} (hs : SS tb f) (hS : SqL K H a (ns.map V.int)) (hT : LamX.Tabs TabCtx.T H) (hσ : σ.length = m + 3) (h0 : σ[0]? = some (some (.ref a)))
    (hd : ∀ k : Nat, k < c → f { nx := fun δ' _ => δ'[0]? = some (.v (.ref a)) ∧ δ'.length = m + 3, rt := fun _ _ => False, rn := fun _ _ => False, ct := fun δ' _ => δ'[0]? = some (.v (.ref a)) ∧ δ'.length = m + 3 } (.v (.ref a) :: .d (.int (k : Nat)) :: .l :: List.replicate m .no) 0) (hq : ∀ σ' H', D.nx σ' H') :
    ∃ W : Nat → Nat → L2.St → Hp → Prop, (∃ m, W 0 m σ H) ∧ ∀ i m σ H, W i m σ H → ((Itr 0 c).stop i H ∧ D.nx σ H) ∨ ((Itr 0 c).go i H ∧ ∃ N : L2.St → Hp → Prop, (∀ σ' H', N σ' H' → ∃ m', m' < m ∧ W (i + 1) m' σ' H') ∧
      ∀ x H', (Itr 0 c).yld i H x H' → gName 1 x σ H' fun σ2 H2 => tSeq (tAsg (tCall (spLeft K) [] E (tCons (tVar 0) (tCons (tVar 1) tNil))) (gName 2)) tb { D with nx := N, ct := N, bk := D.nx } σ2 H2) := by
  refine for_range (lo := 0) (fun i σ H' => σ.length = m + 3 ∧ σ[0]? = some (some (.ref a)) ∧ Go [] H H') ⟨hσ, h0, Go.refl⟩ (fun i σ H1 hi h1 => ?_) (fun σ H1 h1 => hq σ H1)
  obtain ⟨l1, z1, s1⟩ := h1
  have g0 : (σ.set 1 (some (V.int (0 + (i : Nat)))))[0]? = some (some (.ref a)) := by rw [List.getElem?_set_ne (by decide)]; exact z1
  have g1 : (σ.set 1 (some (V.int (0 + (i : Nat)))))[1]? = some (some (V.int ((i : Nat) : Int))) := by
    rw [List.getElem?_set_self (by omega), Int.zero_add]
  refine ⟨_, g0, _, g1, a, ns, _, rfl, s1.seq hS, by omega, fun L x y hL x0 => ?_⟩
  have lf1 : Lf L (upd H1 L (.lst [.int x, .int y, .int 0])) 0 := ⟨x, y, 0, upd_same, x0, by omega, by omega⟩
  have s2 : Go [] H (upd H1 L (.lst [.int x, .int y, .int 0])) := s1.lay hL
  have hLH : H L = none := s1.free hL
  have el : ((σ.set 1 (some (V.int (0 + (i : Nat))))).set 2 (some (.ref L))).length = (Sl.v (.ref a) :: .d (.int (i : Nat)) :: .l :: List.replicate m .no).length := by
    simp [l1]
  refine law_turn hs lf1 (s2.t hT) hLH s2 el (fun j s ej => ?_) (by
    have e : (Sl.v (.ref a) :: .d (.int (i : Nat)) :: .l :: List.replicate m .no).length = m + 3 := by simp
    rw [e]
    exact hd i hi) fun σ' H' z' l' s' => ?_
  · match j with
    | 0 =>
      cases ej
      exact .inr (.inr (.inr ⟨_, rfl, by rw [List.getElem?_set_ne (by decide)]; exact g0⟩))
    | 1 =>
      cases ej
      exact .inr (.inl ⟨_, rfl, by rw [List.getElem?_set_ne (by decide)]; exact g1⟩)
    | 2 =>
      cases ej
      exact .inr (.inr (.inl ⟨rfl, by rw [List.getElem?_set_self (by rw [List.length_set]; omega)]⟩))
    | j + 3 =>
      have := List.mem_of_getElem? (show (List.replicate m Sl.no)[j]? = some s from ej)
      exact .inl (List.mem_replicate.mp this).2
  · have : σ'.length = m + 3 := by rw [l', List.length_set, List.length_set, l1]
    exact ⟨⟨this, z', s'⟩, ⟨this, z', s'⟩⟩
theorem ok_law (T : Tx K mg) {f : Addr} {fd : FuncData} (F : Fun K "law" "law" s_law f fd) {k : Nat} (hk0 : k ≤ 10) : FnG P w K mg base (k + 48) f fd ["_law_script"] (spLaw K) := by
  refine fn_g F sc_law (fun vs H Q E h => ?_) (fun cdv A outer s H vs Q E hA hr h => ?_)
  · obtain ⟨a, ns, rfl, _⟩ := h
    rfl
  · obtain ⟨a, ns, rfl, hS, hT, hlen, q⟩ := h
    refine ⟨_, (pss_cons (ps_for PassesOwn.never rfl (pi_range1 (by rfl) T.z_range (pa_cons (pe_op op_add (pe_callB (call_min2 rfl) (by rfl) T.z_min (by decide +kernel) (pa_cons pe_int (pa_cons (pe_callB (len_K K) (by rfl) T.z_len PySem.boot_len (pa_cons (pv 0) pa_nil)) pa_nil))) pe_int) pa_nil)) (pg_name (i := 1) sc_law.nd rfl (.inl rfl)) (pss_cons (ps_set (i := 2) sc_law.nd rfl (.inl rfl) (pe_call (ok_l_left T (k := k + 46)) hr (by rfl) T.g_l_left T.F_l_left.kp T.b_l_left .nil pass0 (pa_cons (pv 0) (pa_cons (pv 1) pa_nil))))
      (pss_cons (ps_set (i := 3) sc_law.nd rfl (.inl rfl) (pe_call (okn_l_palette T (k := k + 43)) hr (by rfl) T.g_l_palette T.F_l_palette.kp T.b_l_palette .nil pass0 (pa_cons (pv 2) (pa_cons (pe_call (okd_l_kind T (k := k + 44)) hr (by rfl) T.g_l_kind T.F_l_kind.kp T.b_l_kind .nil pass0 (pa_cons (pv 2) pa_nil)) pa_nil))))
      (pss_cons (ps_set (i := 4) sc_law.nd rfl (.inl rfl) (pe_op op_add pe_int (pe_call (okd_l_pick T (k := k + 45)) hr (by rfl) T.g_l_pick T.F_l_pick.kp T.b_l_pick .nil pass0 (pa_cons (pv 2) (pa_cons pe_int pa_nil)))))
      (pss_cons (ps_set (i := 5) sc_law.nd rfl (.inl rfl) (pe_call (okd_l_tree_made T (k := k + 37)) hr (by rfl) T.g_l_tree_made T.F_l_tree_made.kp T.b_l_tree_made .nil pass0 (pa_cons (pv 2) (pa_cons (pv 3) (pa_cons (pe_call (okn_l_all_of T (k := k + 46)) hr (by rfl) T.g_l_all_of T.F_l_all_of.kp T.b_l_all_of .nil pass0 (pa_cons (pv 3) pa_nil)) (pa_cons (pv 4) pa_nil))))))
      (pss_cons (ps_if (pt_cmpR op_notBl (pe_call (okd_is_tree T (k := k + 1)) hr (by rfl) T.g_is_tree T.F_is_tree.kp T.b_is_tree .nil pass0 (pa_cons (pv 3) (pa_cons (pv 4) (pa_cons (pv 5) pa_nil)))) pe_bl (nomark _)) (pss_one (ps_ret pe_bl)) pss_nil)
      (Evl.pss_cut (ps_if (pt_cmpR op_gt (pe_callB (len_K K) (by rfl) T.z_len PySem.boot_len (pa_cons (pv 3) pa_nil)) pe_int (nomark _)) (pss_cons (ps_set (i := 6) sc_law.nd rfl (.inl rfl) (pe_call (okd_l_uneven T (k := k + 27)) hr (by rfl) T.g_l_uneven T.F_l_uneven.kp T.b_l_uneven .nil pass0 (pa_cons (pv 2) (pa_cons (pv 3) (pa_cons (pe_call (okn_l_shuffled T (k := k + 44)) hr (by rfl) T.g_l_shuffled T.F_l_shuffled.kp T.b_l_shuffled .nil pass0 (pa_cons (pv 2) (pa_cons (pe_call (okn_l_all_of T (k := k + 46)) hr (by rfl) T.g_l_all_of T.F_l_all_of.kp T.b_l_all_of .nil pass0 (pa_cons (pv 3) pa_nil)) pa_nil))) (pa_cons (pv 4) pa_nil))))))
      (pss_one (ps_if (pt_cmpR op_notBl (pe_call (okd_is_tree T (k := k + 1)) hr (by rfl) T.g_is_tree T.F_is_tree.kp T.b_is_tree .nil pass0 (pa_cons (pv 3) (pa_cons (pv 4) (pa_cons (pv 6) pa_nil)))) pe_bl (nomark _)) (pss_one (ps_ret pe_bl)) pss_nil))) pss_nil)
      (pss_cons (ps_for PassesOwn.never rfl (pi_range1 (by rfl) T.z_range (pa_cons pe_int pa_nil)) (pg_name (i := 7) sc_law.nd rfl (.inl rfl)) (pss_one (ps_if (pt_not (pt_val (pe_callS (oks_l_as_due T (k := k)) hA hr (by rfl) T.g_l_as_due T.F_l_as_due.kp T.b_l_as_due .nil (pa_cons (pv 3) (pa_cons (pv 4) (pa_cons (pe_call (okd_l_bent T (k := k + 23)) hr (by rfl) T.g_l_bent T.F_l_bent.kp T.b_l_bent .nil pass0 (pa_cons (pv 2) (pa_cons (pv 3) (pa_cons (pv 5) pa_nil)))) pa_nil)))))) (pss_one (ps_ret pe_bl)) pss_nil)))
      (pss_one (ps_if (PW.pt (pw_or (pt_not (pt_val (pe_callS (oks_l_as_due T (k := k)) hA hr (by rfl) T.g_l_as_due T.F_l_as_due.kp T.b_l_as_due .nil (pa_cons (pv 3) (pa_cons (pe_op op_add pe_int (pe_call (okd_l_pick T (k := k + 45)) hr (by rfl) T.g_l_pick T.F_l_pick.kp T.b_l_pick .nil pass0 (pa_cons (pv 2) (pa_cons pe_int pa_nil)))) (pa_cons (pv 5) pa_nil)))))) (pw_or1 (pt_not (pt_val (pe_callS (oks_l_as_due T (k := k)) hA hr (by rfl) T.g_l_as_due T.F_l_as_due.kp T.b_l_as_due .nil (pa_cons (pv 3) (pa_cons (pv 4) (pa_cons (pe_call (okd_l_any T (k := k + 39)) hr (by rfl) T.g_l_any T.F_l_any.kp T.b_l_any .nil pass0 (pa_cons (pv 2) (pa_cons pe_int pa_nil))) pa_nil))))))))) (pss_one (ps_ret pe_bl)) pss_nil))))))))))
      (pss_one (ps_ret pe_bl))), ?_⟩
    refine ⟨_, rfl, a, _, rfl, .inl hS, _, _, rfl, _, _, rfl, rfl, ?_⟩
    obtain ⟨c, hc⟩ : ∃ c : Nat, (if ((ns.map V.int).length : Int) < 6 then ((ns.map V.int).length : Int) else 6) + 1 = (c : Int) ∧ c ≤ 7 := by
      refine ⟨((if ((ns.map V.int).length : Int) < 6 then ((ns.map V.int).length : Int) else 6) + 1).toNat, ?_, ?_⟩ <;> split <;> omega
    refine ⟨_, rfl, by rw [hc.1]; omega, by rw [hc.1]; omega, ?_⟩
    rw [hc.1]
    refine law_all (m := 5) ((ss_seq (ss_asg (SN.se (sn_call (sa_consL (sa_cons (se_call (sa_consL sa_nil)) sa_nil)))) sg_name)
      (ss_seq (ss_asg (se_op sr_int se_int (se_call (sa_consL (sa_cons se_int sa_nil)))) sg_name)
      (ss_seq (ss_asg (se_call (sa_consL (sa_cons (sv 3) (sa_cons (SN.se (sn_call (sa_cons (sv 3) sa_nil))) (sa_cons (sv 4) sa_nil))))) sg_name)
      (ss_seq (ss_if (st_test (se_op sr_notBl (se_call (sa_cons (sv 3) (sa_cons (sv 4) (sa_cons (sv 5) sa_nil)))) se_bl)) (ss_ret se_bl) ss_next)
      (ss_cut (ss_if (st_test (se_op sr_bool (se_cb sc_len (sa_cons (sv 3) sa_nil)) se_int)) (ss_seq (ss_asg (se_call (sa_consL (sa_cons (sv 3) (sa_cons (SN.se (sn_call (sa_consL (sa_cons (SN.se (sn_call (sa_cons (sv 3) sa_nil))) sa_nil)))) (sa_cons (sv 4) sa_nil))))) sg_name)
      (ss_if (st_test (se_op sr_notBl (se_call (sa_cons (sv 3) (sa_cons (sv 4) (sa_cons (sv 6) sa_nil)))) se_bl)) (ss_ret se_bl) ss_next)) ss_next)
      (ss_seq (ss_for (si_r1 (sa_cons se_int sa_nil)) sg_name (ss_if (st_not (st_B (se_call (sa_cons (sv 3) (sa_cons (sv 4) (sa_cons (se_call (sa_consL (sa_cons (sv 3) (sa_cons (sv 5) sa_nil)))) sa_nil)))))) (ss_ret se_bl) ss_next))
      (ss_if (st_or (st_not (st_B (se_call (sa_cons (sv 3) (sa_cons (se_op sr_int se_int (se_call (sa_consL (sa_cons se_int sa_nil)))) (sa_cons (sv 5) sa_nil)))))) (st_not (st_B (se_call (sa_cons (sv 3) (sa_cons (sv 4) (sa_cons (se_call (sa_consL (sa_cons se_int sa_nil))) sa_nil))))))) (ss_ret se_bl) ss_next)))))))) hS hT rfl rfl (fun k hk => ?_) fun σ' H' => q H'
    refine ⟨rfl, rfl, rfl, by decide, fun wd sp w0 w1 s0 s1 => ?_⟩
    refine ⟨wd, sp, rfl, by decide, by omega, w1, by omega, s1, fun cs m hm c0 c1 ok => ?_⟩
    obtain ⟨w, hw⟩ : ∃ w : Nat, wd = (w : Int) := ⟨wd.toNat, by omega⟩
    have okl : ∀ x ∈ cs, x.length = w ∧ cIn 0 999 x := fun x hx => ⟨by have := (ok x hx).1; omega, (ok x hx).2⟩
    have alen := allN_length cs.length
    have amem : ∀ x ∈ allN cs.length, 0 ≤ x ∧ x < (cs.length : Int) := fun x hx => mem_allN.mp hx
    refine ⟨rfl, 8, rfl, by omega, by decide, by decide, fun mo mo0 mo1 => ⟨_, _, rfl, rfl, ?_⟩⟩
    refine ⟨rfl, _, rfl, _, rfl, cs, rfl, by omega, _, rfl, cs, allN cs.length, 1 + mo, w, rfl, by rw [alen]; omega, by omega, by omega, by omega, okl, by omega, by rw [alen]; omega, by omega, amem, by omega, allN_nd _, fun t m2 hm2 rt td pt => ?_⟩
    rw [alen] at hm2
    have ht := rt.ok
    have tl : t.nums.length ≤ 40 := by rw [pt.length_eq, alen]; exact c1
    have tt := tam_eT (by omega) (by omega) okl ht (by omega)
    have szl := Tr.szle ht
    have wtt : t.wt ≤ 140000 := by
      have := Tr.wt_le ht
      omega
    have twt := tw_eT (by omega) ht
    refine ⟨_, rfl, _, rfl, _, rfl, cs, 1 + mo, eT t, w, rfl, c0, by omega, by omega, by omega, okl, tt.sh.mono (by omega), fun b hb => ?_⟩
    obtain rfl : b = true := hb.mpr ⟨t, rfl, rt, pt⟩
    refine ⟨_, _, rfl, rfl, false, congrArg PyData.bool (by decide), iteF ?_⟩
    refine ⟨fun δ j => ∃ x6 x7 : Sl, δ = [.v (.ref a), .d (.int (k : Nat)), .l, .d (eP cs), .d (.int (1 + mo)), .d (eT t), x6, x7] ∧ j ≤ 10000, ?_, fun δ j ⟨x6, x7, eδ, ej⟩ => ?_⟩
    · refine ⟨_, rfl, _, rfl, _, .inl rfl, _, _, rfl, rfl, _, rfl, ite2 (fun h => ?_) (fun h => ?_)⟩
      · have h := of_decide_eq_true h
        rw [List.length_map] at h
        refine ⟨rfl, _, rfl, rfl, _, rfl, cs, rfl, by omega, allN cs.length, rfl, by omega, by omega, fun ks m3 hm3 pk => ?_⟩
        rw [alen] at hm3
        have lk := pk.length_eq
        rw [alen] at lk
        refine ⟨_, rfl, cs, ks, 1 + mo, w, rfl, by omega, by omega, by omega, by omega, okl, by omega, by omega, by omega, fun x hx => amem x (pk.mem_iff.mp hx), by omega, pk.nodup_iff.mpr (allN_nd _), fun u m4 hm4 hu nu du pu => ?_⟩
        have ul : u.nums.length ≤ 40 := by rw [pu.length_eq]; omega
        have tu := tam_eT (by omega) (by omega) okl hu (by omega)
        refine ⟨_, rfl, _, rfl, _, rfl, cs, 1 + mo, eT u, w, rfl, c0, by omega, by omega, by omega, okl, tu.sh.mono (by omega), fun b hb => ?_⟩
        obtain rfl : b = false := by
          cases b with
          | false => rfl
          | true =>
            obtain ⟨v, ev, rv, _⟩ := hb.mp rfl
            rw [eT_one ev] at nu
            exact absurd rv nu
        exact ⟨_, _, rfl, rfl, false, congrArg PyData.bool (by decide), iteF ⟨_, _, rfl, by omega⟩⟩
      · exact ⟨_, _, rfl, by omega⟩
    subst eδ
    refine ⟨8, rfl, by decide, by decide, fun i2 δ j2 => ∃ x6 x7 : Sl, δ = [.v (.ref a), .d (.int (k : Nat)), .l, .d (eP cs), .d (.int (1 + mo)), .d (eT t), x6, x7] ∧ j2 ≤ 10000 + 500 * i2 ∧ i2 ≤ 8, ⟨_, _, rfl, by omega, by omega⟩, fun i2 d δ j2 ed2 ⟨x6, x7, eδ, ej2, i8⟩ => ?_, fun δ j2 ⟨x6, x7, eδ, ej2, i8⟩ => ?_⟩
    · have hi8 : i2 < 8 := by have := (List.getElem?_eq_some_iff.mp ed2).1; rwa [rgD_len] at this
      subst eδ
      refine ⟨_, rfl, _, rfl, rfl, _, rfl, _, rfl, cs, t, w, rfl, by omega, c0, by omega, by omega, by omega, okl, ht, tl, by omega, by decide, fun d j hj td' wd' => ?_⟩
      exact ⟨cs, 1 + mo, w, d, rfl, c0, c1, by omega, by omega, okl, td', by omega, _, rfl, iteF ⟨_, _, rfl, by omega, by omega⟩⟩
    · subst eδ
      refine ⟨_, rfl, rfl, 8, rfl, by omega, by decide, by decide, fun m5 _ _ => ⟨_, _, rfl, rfl, _, rfl, cs, 1 + m5, w, eT t, rfl, c0, c1, by omega, by omega, okl, tt.up (by omega), by omega, _, rfl, iteF ?_⟩⟩
      refine ⟨_, rfl, _, rfl, rfl, 5, rfl, by decide, by omega, fun an j hj tan wan => ⟨cs, 1 + mo, w, an, rfl, c0, c1, by omega, by omega, okl, tan.up (by decide), Nat.le_trans wan (by decide), _, rfl, iteF ⟨rfl, rfl⟩⟩⟩

end
instance tab0 : TabCtx := ⟨[]⟩
set_option maxHeartbeats 0 in
theorem all_mk {l : PySem.W.OpenLaw} {w : World} {K : PySem.W.Frag} {h : Heap} {mg : Str → Option Value} {fa : Addr} (X : K.In h) (G : h.Ns mainGlobals mg) (hfa : mg "law" = some (.ref fa))
    {f0 : Addr} {od0 an0 : Option Addr} {sl0 : Array (Option Value)} {oc0 kV0 dc0 pm0 cd0 ct0 : Value}
    (a0 : PySem.W.nsIn K mainGlobals "is_number" = some (some (.ref f0))) (l0 : K.lookup f0 = some ⟨oc0, od0, .func (PySem.W.fnOf "is_number" "is_number" (defArgs s_is_number) (defBody s_is_number) (defScope s_is_number) .none kV0 dc0 pm0 an0 cd0 ct0), sl0⟩) (c0 : PySem.W.codeIn K cd0 "is_number" = true) (k0 : PySem.W.keepIn K (.ref f0) = true)
    {f1 : Addr} {od1 an1 : Option Addr} {sl1 : Array (Option Value)} {oc1 kV1 dc1 pm1 cd1 ct1 : Value}
    (a1 : PySem.W.nsIn K mainGlobals "are_rising" = some (some (.ref f1))) (l1 : K.lookup f1 = some ⟨oc1, od1, .func (PySem.W.fnOf "are_rising" "are_rising" (defArgs s_are_rising) (defBody s_are_rising) (defScope s_are_rising) .none kV1 dc1 pm1 an1 cd1 ct1), sl1⟩) (c1 : PySem.W.codeIn K cd1 "are_rising" = true) (k1 : PySem.W.keepIn K (.ref f1) = true)
    {f2 : Addr} {od2 an2 : Option Addr} {sl2 : Array (Option Value)} {oc2 kV2 dc2 pm2 cd2 ct2 : Value}
    (a2 : PySem.W.nsIn K mainGlobals "is_colour" = some (some (.ref f2))) (l2 : K.lookup f2 = some ⟨oc2, od2, .func (PySem.W.fnOf "is_colour" "is_colour" (defArgs s_is_colour) (defBody s_is_colour) (defScope s_is_colour) .none kV2 dc2 pm2 an2 cd2 ct2), sl2⟩) (c2 : PySem.W.codeIn K cd2 "is_colour" = true) (k2 : PySem.W.keepIn K (.ref f2) = true)
    {f3 : Addr} {od3 an3 : Option Addr} {sl3 : Array (Option Value)} {oc3 kV3 dc3 pm3 cd3 ct3 : Value}
    (a3 : PySem.W.nsIn K mainGlobals "is_box" = some (some (.ref f3))) (l3 : K.lookup f3 = some ⟨oc3, od3, .func (PySem.W.fnOf "is_box" "is_box" (defArgs s_is_box) (defBody s_is_box) (defScope s_is_box) .none kV3 dc3 pm3 an3 cd3 ct3), sl3⟩) (c3 : PySem.W.codeIn K cd3 "is_box" = true) (k3 : PySem.W.keepIn K (.ref f3) = true)
    {f4 : Addr} {od4 an4 : Option Addr} {sl4 : Array (Option Value)} {oc4 kV4 dc4 pm4 cd4 ct4 : Value}
    (a4 : PySem.W.nsIn K mainGlobals "least_numbers" = some (some (.ref f4))) (l4 : K.lookup f4 = some ⟨oc4, od4, .func (PySem.W.fnOf "least_numbers" "least_numbers" (defArgs s_least_numbers) (defBody s_least_numbers) (defScope s_least_numbers) .none kV4 dc4 pm4 an4 cd4 ct4), sl4⟩) (c4 : PySem.W.codeIn K cd4 "least_numbers" = true) (k4 : PySem.W.keepIn K (.ref f4) = true)
    {f5 : Addr} {od5 an5 : Option Addr} {sl5 : Array (Option Value)} {oc5 kV5 dc5 pm5 cd5 ct5 : Value}
    (a5 : PySem.W.nsIn K mainGlobals "greatest_numbers" = some (some (.ref f5))) (l5 : K.lookup f5 = some ⟨oc5, od5, .func (PySem.W.fnOf "greatest_numbers" "greatest_numbers" (defArgs s_greatest_numbers) (defBody s_greatest_numbers) (defScope s_greatest_numbers) .none kV5 dc5 pm5 an5 cd5 ct5), sl5⟩) (c5 : PySem.W.codeIn K cd5 "greatest_numbers" = true) (k5 : PySem.W.keepIn K (.ref f5) = true)
    {f6 : Addr} {od6 an6 : Option Addr} {sl6 : Array (Option Value)} {oc6 kV6 dc6 pm6 cd6 ct6 : Value}
    (a6 : PySem.W.nsIn K mainGlobals "box_of" = some (some (.ref f6))) (l6 : K.lookup f6 = some ⟨oc6, od6, .func (PySem.W.fnOf "box_of" "box_of" (defArgs s_box_of) (defBody s_box_of) (defScope s_box_of) .none kV6 dc6 pm6 an6 cd6 ct6), sl6⟩) (c6 : PySem.W.codeIn K cd6 "box_of" = true) (k6 : PySem.W.keepIn K (.ref f6) = true)
    {f7 : Addr} {od7 an7 : Option Addr} {sl7 : Array (Option Value)} {oc7 kV7 dc7 pm7 cd7 ct7 : Value}
    (a7 : PySem.W.nsIn K mainGlobals "are_some" = some (some (.ref f7))) (l7 : K.lookup f7 = some ⟨oc7, od7, .func (PySem.W.fnOf "are_some" "are_some" (defArgs s_are_some) (defBody s_are_some) (defScope s_are_some) .none kV7 dc7 pm7 an7 cd7 ct7), sl7⟩) (c7 : PySem.W.codeIn K cd7 "are_some" = true) (k7 : PySem.W.keepIn K (.ref f7) = true)
    {f8 : Addr} {od8 an8 : Option Addr} {sl8 : Array (Option Value)} {oc8 kV8 dc8 pm8 cd8 ct8 : Value}
    (a8 : PySem.W.nsIn K mainGlobals "is_just_box" = some (some (.ref f8))) (l8 : K.lookup f8 = some ⟨oc8, od8, .func (PySem.W.fnOf "is_just_box" "is_just_box" (defArgs s_is_just_box) (defBody s_is_just_box) (defScope s_is_just_box) .none kV8 dc8 pm8 an8 cd8 ct8), sl8⟩) (c8 : PySem.W.codeIn K cd8 "is_just_box" = true) (k8 : PySem.W.keepIn K (.ref f8) = true)
    {f9 : Addr} {od9 an9 : Option Addr} {sl9 : Array (Option Value)} {oc9 kV9 dc9 pm9 cd9 ct9 : Value}
    (a9 : PySem.W.nsIn K mainGlobals "numbers_of_leaf" = some (some (.ref f9))) (l9 : K.lookup f9 = some ⟨oc9, od9, .func (PySem.W.fnOf "numbers_of_leaf" "numbers_of_leaf" (defArgs s_numbers_of_leaf) (defBody s_numbers_of_leaf) (defScope s_numbers_of_leaf) .none kV9 dc9 pm9 an9 cd9 ct9), sl9⟩) (c9 : PySem.W.codeIn K cd9 "numbers_of_leaf" = true) (k9 : PySem.W.keepIn K (.ref f9) = true)
    {f10 : Addr} {od10 an10 : Option Addr} {sl10 : Array (Option Value)} {oc10 kV10 dc10 pm10 cd10 ct10 : Value}
    (a10 : PySem.W.nsIn K mainGlobals "numbers_of_halves" = some (some (.ref f10))) (l10 : K.lookup f10 = some ⟨oc10, od10, .func (PySem.W.fnOf "numbers_of_halves" "numbers_of_halves" (defArgs s_numbers_of_halves) (defBody s_numbers_of_halves) (defScope s_numbers_of_halves) .none kV10 dc10 pm10 an10 cd10 ct10), sl10⟩) (c10 : PySem.W.codeIn K cd10 "numbers_of_halves" = true) (k10 : PySem.W.keepIn K (.ref f10) = true)
    {f11 : Addr} {od11 an11 : Option Addr} {sl11 : Array (Option Value)} {oc11 kV11 dc11 pm11 cd11 ct11 : Value}
    (a11 : PySem.W.nsIn K mainGlobals "numbers_of_node" = some (some (.ref f11))) (l11 : K.lookup f11 = some ⟨oc11, od11, .func (PySem.W.fnOf "numbers_of_node" "numbers_of_node" (defArgs s_numbers_of_node) (defBody s_numbers_of_node) (defScope s_numbers_of_node) .none kV11 dc11 pm11 an11 cd11 ct11), sl11⟩) (c11 : PySem.W.codeIn K cd11 "numbers_of_node" = true) (k11 : PySem.W.keepIn K (.ref f11) = true)
    {f12 : Addr} {od12 an12 : Option Addr} {sl12 : Array (Option Value)} {oc12 kV12 dc12 pm12 cd12 ct12 : Value}
    (a12 : PySem.W.nsIn K mainGlobals "is_tree" = some (some (.ref f12))) (l12 : K.lookup f12 = some ⟨oc12, od12, .func (PySem.W.fnOf "is_tree" "is_tree" (defArgs s_is_tree) (defBody s_is_tree) (defScope s_is_tree) .none kV12 dc12 pm12 an12 cd12 ct12), sl12⟩) (c12 : PySem.W.codeIn K cd12 "is_tree" = true) (k12 : PySem.W.keepIn K (.ref f12) = true)
    {f13 : Addr} {od13 an13 : Option Addr} {sl13 : Array (Option Value)} {oc13 kV13 dc13 pm13 cd13 ct13 : Value}
    (a13 : PySem.W.nsIn K mainGlobals "_law_mix" = some (some (.ref f13))) (l13 : K.lookup f13 = some ⟨oc13, od13, .func (PySem.W.fnOf "_law_mix" "_law_mix" (defArgs s_l_mix) (defBody s_l_mix) (defScope s_l_mix) .none kV13 dc13 pm13 an13 cd13 ct13), sl13⟩) (c13 : PySem.W.codeIn K cd13 "_law_mix" = true) (k13 : PySem.W.keepIn K (.ref f13) = true)
    {f14 : Addr} {od14 an14 : Option Addr} {sl14 : Array (Option Value)} {oc14 kV14 dc14 pm14 cd14 ct14 : Value}
    (a14 : PySem.W.nsIn K mainGlobals "_law_left" = some (some (.ref f14))) (l14 : K.lookup f14 = some ⟨oc14, od14, .func (PySem.W.fnOf "_law_left" "_law_left" (defArgs s_l_left) (defBody s_l_left) (defScope s_l_left) .none kV14 dc14 pm14 an14 cd14 ct14), sl14⟩) (c14 : PySem.W.codeIn K cd14 "_law_left" = true) (k14 : PySem.W.keepIn K (.ref f14) = true)
    {f15 : Addr} {od15 an15 : Option Addr} {sl15 : Array (Option Value)} {oc15 kV15 dc15 pm15 cd15 ct15 : Value}
    (a15 : PySem.W.nsIn K mainGlobals "_law_pick" = some (some (.ref f15))) (l15 : K.lookup f15 = some ⟨oc15, od15, .func (PySem.W.fnOf "_law_pick" "_law_pick" (defArgs s_l_pick) (defBody s_l_pick) (defScope s_l_pick) .none kV15 dc15 pm15 an15 cd15 ct15), sl15⟩) (c15 : PySem.W.codeIn K cd15 "_law_pick" = true) (k15 : PySem.W.keepIn K (.ref f15) = true)
    {f16 : Addr} {od16 an16 : Option Addr} {sl16 : Array (Option Value)} {oc16 kV16 dc16 pm16 cd16 ct16 : Value}
    (a16 : PySem.W.nsIn K mainGlobals "_law_kind" = some (some (.ref f16))) (l16 : K.lookup f16 = some ⟨oc16, od16, .func (PySem.W.fnOf "_law_kind" "_law_kind" (defArgs s_l_kind) (defBody s_l_kind) (defScope s_l_kind) .none kV16 dc16 pm16 an16 cd16 ct16), sl16⟩) (c16 : PySem.W.codeIn K cd16 "_law_kind" = true) (k16 : PySem.W.keepIn K (.ref f16) = true)
    {f17 : Addr} {od17 an17 : Option Addr} {sl17 : Array (Option Value)} {oc17 kV17 dc17 pm17 cd17 ct17 : Value}
    (a17 : PySem.W.nsIn K mainGlobals "_law_colour" = some (some (.ref f17))) (l17 : K.lookup f17 = some ⟨oc17, od17, .func (PySem.W.fnOf "_law_colour" "_law_colour" (defArgs s_l_colour) (defBody s_l_colour) (defScope s_l_colour) .none kV17 dc17 pm17 an17 cd17 ct17), sl17⟩) (c17 : PySem.W.codeIn K cd17 "_law_colour" = true) (k17 : PySem.W.keepIn K (.ref f17) = true)
    {f18 : Addr} {od18 an18 : Option Addr} {sl18 : Array (Option Value)} {oc18 kV18 dc18 pm18 cd18 ct18 : Value}
    (a18 : PySem.W.nsIn K mainGlobals "_law_palette" = some (some (.ref f18))) (l18 : K.lookup f18 = some ⟨oc18, od18, .func (PySem.W.fnOf "_law_palette" "_law_palette" (defArgs s_l_palette) (defBody s_l_palette) (defScope s_l_palette) .none kV18 dc18 pm18 an18 cd18 ct18), sl18⟩) (c18 : PySem.W.codeIn K cd18 "_law_palette" = true) (k18 : PySem.W.keepIn K (.ref f18) = true)
    {f19 : Addr} {od19 an19 : Option Addr} {sl19 : Array (Option Value)} {oc19 kV19 dc19 pm19 cd19 ct19 : Value}
    (a19 : PySem.W.nsIn K mainGlobals "_law_same" = some (some (.ref f19))) (l19 : K.lookup f19 = some ⟨oc19, od19, .func (PySem.W.fnOf "_law_same" "_law_same" (defArgs s_l_same) (defBody s_l_same) (defScope s_l_same) .none kV19 dc19 pm19 an19 cd19 ct19), sl19⟩) (c19 : PySem.W.codeIn K cd19 "_law_same" = true) (k19 : PySem.W.keepIn K (.ref f19) = true)
    {f20 : Addr} {od20 an20 : Option Addr} {sl20 : Array (Option Value)} {oc20 kV20 dc20 pm20 cd20 ct20 : Value}
    (a20 : PySem.W.nsIn K mainGlobals "_law_shuffled" = some (some (.ref f20))) (l20 : K.lookup f20 = some ⟨oc20, od20, .func (PySem.W.fnOf "_law_shuffled" "_law_shuffled" (defArgs s_l_shuffled) (defBody s_l_shuffled) (defScope s_l_shuffled) .none kV20 dc20 pm20 an20 cd20 ct20), sl20⟩) (c20 : PySem.W.codeIn K cd20 "_law_shuffled" = true) (k20 : PySem.W.keepIn K (.ref f20) = true)
    {f21 : Addr} {od21 an21 : Option Addr} {sl21 : Array (Option Value)} {oc21 kV21 dc21 pm21 cd21 ct21 : Value}
    (a21 : PySem.W.nsIn K mainGlobals "_law_box" = some (some (.ref f21))) (l21 : K.lookup f21 = some ⟨oc21, od21, .func (PySem.W.fnOf "_law_box" "_law_box" (defArgs s_l_box) (defBody s_l_box) (defScope s_l_box) .none kV21 dc21 pm21 an21 cd21 ct21), sl21⟩) (c21 : PySem.W.codeIn K cd21 "_law_box" = true) (k21 : PySem.W.keepIn K (.ref f21) = true)
    {f22 : Addr} {od22 an22 : Option Addr} {sl22 : Array (Option Value)} {oc22 kV22 dc22 pm22 cd22 ct22 : Value}
    (a22 : PySem.W.nsIn K mainGlobals "_law_tree_made" = some (some (.ref f22))) (l22 : K.lookup f22 = some ⟨oc22, od22, .func (PySem.W.fnOf "_law_tree_made" "_law_tree_made" (defArgs s_l_tree_made) (defBody s_l_tree_made) (defScope s_l_tree_made) .none kV22 dc22 pm22 an22 cd22 ct22), sl22⟩) (c22 : PySem.W.codeIn K cd22 "_law_tree_made" = true) (k22 : PySem.W.keepIn K (.ref f22) = true)
    {f23 : Addr} {od23 an23 : Option Addr} {sl23 : Array (Option Value)} {oc23 kV23 dc23 pm23 cd23 ct23 : Value}
    (a23 : PySem.W.nsIn K mainGlobals "_law_all_of" = some (some (.ref f23))) (l23 : K.lookup f23 = some ⟨oc23, od23, .func (PySem.W.fnOf "_law_all_of" "_law_all_of" (defArgs s_l_all_of) (defBody s_l_all_of) (defScope s_l_all_of) .none kV23 dc23 pm23 an23 cd23 ct23), sl23⟩) (c23 : PySem.W.codeIn K cd23 "_law_all_of" = true) (k23 : PySem.W.keepIn K (.ref f23) = true)
    {f24 : Addr} {od24 an24 : Option Addr} {sl24 : Array (Option Value)} {oc24 kV24 dc24 pm24 cd24 ct24 : Value}
    (a24 : PySem.W.nsIn K mainGlobals "_law_is_box" = some (some (.ref f24))) (l24 : K.lookup f24 = some ⟨oc24, od24, .func (PySem.W.fnOf "_law_is_box" "_law_is_box" (defArgs s_l_is_box) (defBody s_l_is_box) (defScope s_l_is_box) .none kV24 dc24 pm24 an24 cd24 ct24), sl24⟩) (c24 : PySem.W.codeIn K cd24 "_law_is_box" = true) (k24 : PySem.W.keepIn K (.ref f24) = true)
    {f25 : Addr} {od25 an25 : Option Addr} {sl25 : Array (Option Value)} {oc25 kV25 dc25 pm25 cd25 ct25 : Value}
    (a25 : PySem.W.nsIn K mainGlobals "_law_are_numbers" = some (some (.ref f25))) (l25 : K.lookup f25 = some ⟨oc25, od25, .func (PySem.W.fnOf "_law_are_numbers" "_law_are_numbers" (defArgs s_l_are_numbers) (defBody s_l_are_numbers) (defScope s_l_are_numbers) .none kV25 dc25 pm25 an25 cd25 ct25), sl25⟩) (c25 : PySem.W.codeIn K cd25 "_law_are_numbers" = true) (k25 : PySem.W.keepIn K (.ref f25) = true)
    {f26 : Addr} {od26 an26 : Option Addr} {sl26 : Array (Option Value)} {oc26 kV26 dc26 pm26 cd26 ct26 : Value}
    (a26 : PySem.W.nsIn K mainGlobals "_law_tree_numbers" = some (some (.ref f26))) (l26 : K.lookup f26 = some ⟨oc26, od26, .func (PySem.W.fnOf "_law_tree_numbers" "_law_tree_numbers" (defArgs s_l_tree_numbers) (defBody s_l_tree_numbers) (defScope s_l_tree_numbers) .none kV26 dc26 pm26 an26 cd26 ct26), sl26⟩) (c26 : PySem.W.codeIn K cd26 "_law_tree_numbers" = true) (k26 : PySem.W.keepIn K (.ref f26) = true)
    {f27 : Addr} {od27 an27 : Option Addr} {sl27 : Array (Option Value)} {oc27 kV27 dc27 pm27 cd27 ct27 : Value}
    (a27 : PySem.W.nsIn K mainGlobals "_law_tree_right" = some (some (.ref f27))) (l27 : K.lookup f27 = some ⟨oc27, od27, .func (PySem.W.fnOf "_law_tree_right" "_law_tree_right" (defArgs s_l_tree_right) (defBody s_l_tree_right) (defScope s_l_tree_right) .none kV27 dc27 pm27 an27 cd27 ct27), sl27⟩) (c27 : PySem.W.codeIn K cd27 "_law_tree_right" = true) (k27 : PySem.W.keepIn K (.ref f27) = true)
    {f28 : Addr} {od28 an28 : Option Addr} {sl28 : Array (Option Value)} {oc28 kV28 dc28 pm28 cd28 ct28 : Value}
    (a28 : PySem.W.nsIn K mainGlobals "_law_leaves" = some (some (.ref f28))) (l28 : K.lookup f28 = some ⟨oc28, od28, .func (PySem.W.fnOf "_law_leaves" "_law_leaves" (defArgs s_l_leaves) (defBody s_l_leaves) (defScope s_l_leaves) .none kV28 dc28 pm28 an28 cd28 ct28), sl28⟩) (c28 : PySem.W.codeIn K cd28 "_law_leaves" = true) (k28 : PySem.W.keepIn K (.ref f28) = true)
    {f29 : Addr} {od29 an29 : Option Addr} {sl29 : Array (Option Value)} {oc29 kV29 dc29 pm29 cd29 ct29 : Value}
    (a29 : PySem.W.nsIn K mainGlobals "_law_any" = some (some (.ref f29))) (l29 : K.lookup f29 = some ⟨oc29, od29, .func (PySem.W.fnOf "_law_any" "_law_any" (defArgs s_l_any) (defBody s_l_any) (defScope s_l_any) .none kV29 dc29 pm29 an29 cd29 ct29), sl29⟩) (c29 : PySem.W.codeIn K cd29 "_law_any" = true) (k29 : PySem.W.keepIn K (.ref f29) = true)
    {f30 : Addr} {od30 an30 : Option Addr} {sl30 : Array (Option Value)} {oc30 kV30 dc30 pm30 cd30 ct30 : Value}
    (a30 : PySem.W.nsIn K mainGlobals "_law_uneven" = some (some (.ref f30))) (l30 : K.lookup f30 = some ⟨oc30, od30, .func (PySem.W.fnOf "_law_uneven" "_law_uneven" (defArgs s_l_uneven) (defBody s_l_uneven) (defScope s_l_uneven) .none kV30 dc30 pm30 an30 cd30 ct30), sl30⟩) (c30 : PySem.W.codeIn K cd30 "_law_uneven" = true) (k30 : PySem.W.keepIn K (.ref f30) = true)
    {f31 : Addr} {od31 an31 : Option Addr} {sl31 : Array (Option Value)} {oc31 kV31 dc31 pm31 cd31 ct31 : Value}
    (a31 : PySem.W.nsIn K mainGlobals "_law_greater" = some (some (.ref f31))) (l31 : K.lookup f31 = some ⟨oc31, od31, .func (PySem.W.fnOf "_law_greater" "_law_greater" (defArgs s_l_greater) (defBody s_l_greater) (defScope s_l_greater) .none kV31 dc31 pm31 an31 cd31 ct31), sl31⟩) (c31 : PySem.W.codeIn K cd31 "_law_greater" = true) (k31 : PySem.W.keepIn K (.ref f31) = true)
    {f32 : Addr} {od32 an32 : Option Addr} {sl32 : Array (Option Value)} {oc32 kV32 dc32 pm32 cd32 ct32 : Value}
    (a32 : PySem.W.nsIn K mainGlobals "_law_box_bent" = some (some (.ref f32))) (l32 : K.lookup f32 = some ⟨oc32, od32, .func (PySem.W.fnOf "_law_box_bent" "_law_box_bent" (defArgs s_l_box_bent) (defBody s_l_box_bent) (defScope s_l_box_bent) .none kV32 dc32 pm32 an32 cd32 ct32), sl32⟩) (c32 : PySem.W.codeIn K cd32 "_law_box_bent" = true) (k32 : PySem.W.keepIn K (.ref f32) = true)
    {f33 : Addr} {od33 an33 : Option Addr} {sl33 : Array (Option Value)} {oc33 kV33 dc33 pm33 cd33 ct33 : Value}
    (a33 : PySem.W.nsIn K mainGlobals "_law_leaf_bent" = some (some (.ref f33))) (l33 : K.lookup f33 = some ⟨oc33, od33, .func (PySem.W.fnOf "_law_leaf_bent" "_law_leaf_bent" (defArgs s_l_leaf_bent) (defBody s_l_leaf_bent) (defScope s_l_leaf_bent) .none kV33 dc33 pm33 an33 cd33 ct33), sl33⟩) (c33 : PySem.W.codeIn K cd33 "_law_leaf_bent" = true) (k33 : PySem.W.keepIn K (.ref f33) = true)
    {f34 : Addr} {od34 an34 : Option Addr} {sl34 : Array (Option Value)} {oc34 kV34 dc34 pm34 cd34 ct34 : Value}
    (a34 : PySem.W.nsIn K mainGlobals "_law_bent" = some (some (.ref f34))) (l34 : K.lookup f34 = some ⟨oc34, od34, .func (PySem.W.fnOf "_law_bent" "_law_bent" (defArgs s_l_bent) (defBody s_l_bent) (defScope s_l_bent) .none kV34 dc34 pm34 an34 cd34 ct34), sl34⟩) (c34 : PySem.W.codeIn K cd34 "_law_bent" = true) (k34 : PySem.W.keepIn K (.ref f34) = true)
    {f35 : Addr} {od35 an35 : Option Addr} {sl35 : Array (Option Value)} {oc35 kV35 dc35 pm35 cd35 ct35 : Value}
    (a35 : PySem.W.nsIn K mainGlobals "_law_under" = some (some (.ref f35))) (l35 : K.lookup f35 = some ⟨oc35, od35, .func (PySem.W.fnOf "_law_under" "_law_under" (defArgs s_l_under) (defBody s_l_under) (defScope s_l_under) .none kV35 dc35 pm35 an35 cd35 ct35), sl35⟩) (c35 : PySem.W.codeIn K cd35 "_law_under" = true) (k35 : PySem.W.keepIn K (.ref f35) = true)
    {f36 : Addr} {od36 an36 : Option Addr} {sl36 : Array (Option Value)} {oc36 kV36 dc36 pm36 cd36 ct36 : Value}
    (a36 : PySem.W.nsIn K mainGlobals "_law_as_due" = some (some (.ref f36))) (l36 : K.lookup f36 = some ⟨oc36, od36, .func (PySem.W.fnOf "_law_as_due" "_law_as_due" (defArgs s_l_as_due) (defBody s_l_as_due) (defScope s_l_as_due) .none kV36 dc36 pm36 an36 cd36 ct36), sl36⟩) (c36 : PySem.W.codeIn K cd36 "_law_as_due" = true) (k36 : PySem.W.keepIn K (.ref f36) = true)
    {f37 : Addr} {od37 an37 : Option Addr} {sl37 : Array (Option Value)} {oc37 kV37 dc37 pm37 cd37 ct37 : Value}
    (a37 : PySem.W.nsIn K mainGlobals "law" = some (some (.ref f37))) (l37 : K.lookup f37 = some ⟨oc37, od37, .func (PySem.W.fnOf "law" "law" (defArgs s_law) (defBody s_law) (defScope s_law) .none kV37 dc37 pm37 an37 cd37 ct37), sl37⟩) (c37 : PySem.W.codeIn K cd37 "law" = true) (k37 : PySem.W.keepIn K (.ref f37) = true)
    (z_abs : PySem.W.nsIn K mainGlobals "abs" = some none)
    (z_all : PySem.W.nsIn K mainGlobals "all" = some none)
    (z_bool : PySem.W.nsIn K mainGlobals "bool" = some none)
    (z_int : PySem.W.nsIn K mainGlobals "int" = some none)
    (z_isinstance : PySem.W.nsIn K mainGlobals "isinstance" = some none)
    (z_len : PySem.W.nsIn K mainGlobals "len" = some none)
    (z_list : PySem.W.nsIn K mainGlobals "list" = some none)
    (z_max : PySem.W.nsIn K mainGlobals "max" = some none)
    (z_min : PySem.W.nsIn K mainGlobals "min" = some none)
    (z_range : PySem.W.nsIn K mainGlobals "range" = some none)
    (z_set : PySem.W.nsIn K mainGlobals "set" = some none)
    (z_sorted : PySem.W.nsIn K mainGlobals "sorted" = some none)
    (z_str : PySem.W.nsIn K mainGlobals "str" = some none)
    (z_tuple : PySem.W.nsIn K mainGlobals "tuple" = some none)
    (z_zip : PySem.W.nsIn K mainGlobals "zip" = some none)
    : ∃ fd : FuncData, (∀ (s : Shared) (v : Value), BindsTo s fd ⟨[v], []⟩ [("_law_script", v)]) ∧ ∀ base : Heap, K.In base → base.Ns mainGlobals mg → FnG l.prog w K mg base 48 fa fd ["_law_script"] (spLaw K) := by
  have e := hfa.symm.trans (PySem.W.mg_of X G a37)
  cases e
  exact ⟨_, fun s v => .of_eq rfl, fun base _ _ => ok_law (k := 0) {
      f_is_number := f0, d_is_number := _, F_is_number := fun_mk (st := s_is_number) l0 c0 k0, b_is_number := (fun_mk (st := s_is_number) l0 c0 k0).binds (ps := ["thing"]) fun _ _ _ _ _ _ us hl => match us, hl with | [_], _ => rfl, g_is_number := PySem.W.mg_of X G a0,
      f_are_rising := f1, d_are_rising := _, F_are_rising := fun_mk (st := s_are_rising) l1 c1 k1, b_are_rising := (fun_mk (st := s_are_rising) l1 c1 k1).binds (ps := ["things"]) fun _ _ _ _ _ _ us hl => match us, hl with | [_], _ => rfl, g_are_rising := PySem.W.mg_of X G a1,
      f_is_colour := f2, d_is_colour := _, F_is_colour := fun_mk (st := s_is_colour) l2 c2 k2, b_is_colour := (fun_mk (st := s_is_colour) l2 c2 k2).binds (ps := ["thing", "wide"]) fun _ _ _ _ _ _ us hl => match us, hl with | [_, _], _ => rfl, g_is_colour := PySem.W.mg_of X G a2,
      f_is_box := f3, d_is_box := _, F_is_box := fun_mk (st := s_is_box) l3 c3 k3, b_is_box := (fun_mk (st := s_is_box) l3 c3 k3).binds (ps := ["thing", "wide"]) fun _ _ _ _ _ _ us hl => match us, hl with | [_, _], _ => rfl, g_is_box := PySem.W.mg_of X G a3,
      f_least_numbers := f4, d_least_numbers := _, F_least_numbers := fun_mk (st := s_least_numbers) l4 c4 k4, b_least_numbers := (fun_mk (st := s_least_numbers) l4 c4 k4).binds (ps := ["colours"]) fun _ _ _ _ _ _ us hl => match us, hl with | [_], _ => rfl, g_least_numbers := PySem.W.mg_of X G a4,
      f_greatest_numbers := f5, d_greatest_numbers := _, F_greatest_numbers := fun_mk (st := s_greatest_numbers) l5 c5 k5, b_greatest_numbers := (fun_mk (st := s_greatest_numbers) l5 c5 k5).binds (ps := ["colours"]) fun _ _ _ _ _ _ us hl => match us, hl with | [_], _ => rfl, g_greatest_numbers := PySem.W.mg_of X G a5,
      f_box_of := f6, d_box_of := _, F_box_of := fun_mk (st := s_box_of) l6 c6 k6, b_box_of := (fun_mk (st := s_box_of) l6 c6 k6).binds (ps := ["colours"]) fun _ _ _ _ _ _ us hl => match us, hl with | [_], _ => rfl, g_box_of := PySem.W.mg_of X G a6,
      f_are_some := f7, d_are_some := _, F_are_some := fun_mk (st := s_are_some) l7 c7 k7, b_are_some := (fun_mk (st := s_are_some) l7 c7 k7).binds (ps := ["palette", "numbers"]) fun _ _ _ _ _ _ us hl => match us, hl with | [_, _], _ => rfl, g_are_some := PySem.W.mg_of X G a7,
      f_is_just_box := f8, d_is_just_box := _, F_is_just_box := fun_mk (st := s_is_just_box) l8 c8 k8, b_is_just_box := (fun_mk (st := s_is_just_box) l8 c8 k8).binds (ps := ["palette", "box", "numbers"]) fun _ _ _ _ _ _ us hl => match us, hl with | [_, _, _], _ => rfl, g_is_just_box := PySem.W.mg_of X G a8,
      f_numbers_of_leaf := f9, d_numbers_of_leaf := _, F_numbers_of_leaf := fun_mk (st := s_numbers_of_leaf) l9 c9 k9, b_numbers_of_leaf := (fun_mk (st := s_numbers_of_leaf) l9 c9 k9).binds (ps := ["palette", "most", "numbers"]) fun _ _ _ _ _ _ us hl => match us, hl with | [_, _, _], _ => rfl, g_numbers_of_leaf := PySem.W.mg_of X G a9,
      f_numbers_of_halves := f10, d_numbers_of_halves := _, F_numbers_of_halves := fun_mk (st := s_numbers_of_halves) l10 c10 k10, b_numbers_of_halves := (fun_mk (st := s_numbers_of_halves) l10 c10 k10).binds (ps := ["palette", "most", "one", "other"]) fun _ _ _ _ _ _ us hl => match us, hl with | [_, _, _, _], _ => rfl, g_numbers_of_halves := PySem.W.mg_of X G a10,
      f_numbers_of_node := f11, d_numbers_of_node := _, F_numbers_of_node := fun_mk (st := s_numbers_of_node) l11 c11 k11, b_numbers_of_node := (fun_mk (st := s_numbers_of_node) l11 c11 k11).binds (ps := ["palette", "most", "thing"]) fun _ _ _ _ _ _ us hl => match us, hl with | [_, _, _], _ => rfl, g_numbers_of_node := PySem.W.mg_of X G a11,
      f_is_tree := f12, d_is_tree := _, F_is_tree := fun_mk (st := s_is_tree) l12 c12 k12, b_is_tree := (fun_mk (st := s_is_tree) l12 c12 k12).binds (ps := ["palette", "most", "thing"]) fun _ _ _ _ _ _ us hl => match us, hl with | [_, _, _], _ => rfl, g_is_tree := PySem.W.mg_of X G a12,
      f_l_mix := f13, d_l_mix := _, F_l_mix := fun_mk (st := s_l_mix) l13 c13 k13, b_l_mix := (fun_mk (st := s_l_mix) l13 c13 k13).binds (ps := ["_law_cell", "_law_k"]) fun _ _ _ _ _ _ us hl => match us, hl with | [_, _], _ => rfl, g_l_mix := PySem.W.mg_of X G a13,
      f_l_left := f14, d_l_left := _, F_l_left := fun_mk (st := s_l_left) l14 c14 k14, b_l_left := (fun_mk (st := s_l_left) l14 c14 k14).binds (ps := ["_law_script", "_law_k"]) fun _ _ _ _ _ _ us hl => match us, hl with | [_, _], _ => rfl, g_l_left := PySem.W.mg_of X G a14,
      f_l_pick := f15, d_l_pick := _, F_l_pick := fun_mk (st := s_l_pick) l15 c15 k15, b_l_pick := (fun_mk (st := s_l_pick) l15 c15 k15).binds (ps := ["_law_left_here", "_law_many"]) fun _ _ _ _ _ _ us hl => match us, hl with | [_, _], _ => rfl, g_l_pick := PySem.W.mg_of X G a15,
      f_l_kind := f16, d_l_kind := _, F_l_kind := fun_mk (st := s_l_kind) l16 c16 k16, b_l_kind := (fun_mk (st := s_l_kind) l16 c16 k16).binds (ps := ["_law_left_here"]) fun _ _ _ _ _ _ us hl => match us, hl with | [_], _ => rfl, g_l_kind := PySem.W.mg_of X G a16,
      f_l_colour := f17, d_l_colour := _, F_l_colour := fun_mk (st := s_l_colour) l17 c17 k17, b_l_colour := (fun_mk (st := s_l_colour) l17 c17 k17).binds (ps := ["_law_left_here", "_law_kind_here"]) fun _ _ _ _ _ _ us hl => match us, hl with | [_, _], _ => rfl, g_l_colour := PySem.W.mg_of X G a17,
      f_l_palette := f18, d_l_palette := _, F_l_palette := fun_mk (st := s_l_palette) l18 c18 k18, b_l_palette := (fun_mk (st := s_l_palette) l18 c18 k18).binds (ps := ["_law_left_here", "_law_kind_here"]) fun _ _ _ _ _ _ us hl => match us, hl with | [_, _], _ => rfl, g_l_palette := PySem.W.mg_of X G a18,
      f_l_same := f19, d_l_same := _, F_l_same := fun_mk (st := s_l_same) l19 c19 k19, b_l_same := (fun_mk (st := s_l_same) l19 c19 k19).binds (ps := ["_law_found", "_law_due"]) fun _ _ _ _ _ _ us hl => match us, hl with | [_, _], _ => rfl, g_l_same := PySem.W.mg_of X G a19,
      f_l_shuffled := f20, d_l_shuffled := _, F_l_shuffled := fun_mk (st := s_l_shuffled) l20 c20 k20, b_l_shuffled := (fun_mk (st := s_l_shuffled) l20 c20 k20).binds (ps := ["_law_left_here", "_law_some"]) fun _ _ _ _ _ _ us hl => match us, hl with | [_, _], _ => rfl, g_l_shuffled := PySem.W.mg_of X G a20,
      f_l_box := f21, d_l_box := _, F_l_box := fun_mk (st := s_l_box) l21 c21 k21, b_l_box := (fun_mk (st := s_l_box) l21 c21 k21).binds (ps := ["_law_colours"]) fun _ _ _ _ _ _ us hl => match us, hl with | [_], _ => rfl, g_l_box := PySem.W.mg_of X G a21,
      f_l_tree_made := f22, d_l_tree_made := _, F_l_tree_made := fun_mk (st := s_l_tree_made) l22 c22 k22, b_l_tree_made := (fun_mk (st := s_l_tree_made) l22 c22 k22).binds (ps := ["_law_left_here", "_law_palette_here", "_law_numbers", "_law_most"]) fun _ _ _ _ _ _ us hl => match us, hl with | [_, _, _, _], _ => rfl, g_l_tree_made := PySem.W.mg_of X G a22,
      f_l_all_of := f23, d_l_all_of := _, F_l_all_of := fun_mk (st := s_l_all_of) l23 c23 k23, b_l_all_of := (fun_mk (st := s_l_all_of) l23 c23 k23).binds (ps := ["_law_palette_here"]) fun _ _ _ _ _ _ us hl => match us, hl with | [_], _ => rfl, g_l_all_of := PySem.W.mg_of X G a23,
      f_l_is_box := f24, d_l_is_box := _, F_l_is_box := fun_mk (st := s_l_is_box) l24 c24 k24, b_l_is_box := (fun_mk (st := s_l_is_box) l24 c24 k24).binds (ps := ["_law_thing", "_law_colours"]) fun _ _ _ _ _ _ us hl => match us, hl with | [_, _], _ => rfl, g_l_is_box := PySem.W.mg_of X G a24,
      f_l_are_numbers := f25, d_l_are_numbers := _, F_l_are_numbers := fun_mk (st := s_l_are_numbers) l25 c25 k25, b_l_are_numbers := (fun_mk (st := s_l_are_numbers) l25 c25 k25).binds (ps := ["_law_palette_here", "_law_thing"]) fun _ _ _ _ _ _ us hl => match us, hl with | [_, _], _ => rfl, g_l_are_numbers := PySem.W.mg_of X G a25,
      f_l_tree_numbers := f26, d_l_tree_numbers := _, F_l_tree_numbers := fun_mk (st := s_l_tree_numbers) l26 c26 k26, b_l_tree_numbers := (fun_mk (st := s_l_tree_numbers) l26 c26 k26).binds (ps := ["_law_palette_here", "_law_most", "_law_thing"]) fun _ _ _ _ _ _ us hl => match us, hl with | [_, _, _], _ => rfl, g_l_tree_numbers := PySem.W.mg_of X G a26,
      f_l_tree_right := f27, d_l_tree_right := _, F_l_tree_right := fun_mk (st := s_l_tree_right) l27 c27 k27, b_l_tree_right := (fun_mk (st := s_l_tree_right) l27 c27 k27).binds (ps := ["_law_palette_here", "_law_most", "_law_thing"]) fun _ _ _ _ _ _ us hl => match us, hl with | [_, _, _], _ => rfl, g_l_tree_right := PySem.W.mg_of X G a27,
      f_l_leaves := f28, d_l_leaves := _, F_l_leaves := fun_mk (st := s_l_leaves) l28 c28 k28, b_l_leaves := (fun_mk (st := s_l_leaves) l28 c28 k28).binds (ps := ["_law_node"]) fun _ _ _ _ _ _ us hl => match us, hl with | [_], _ => rfl, g_l_leaves := PySem.W.mg_of X G a28,
      f_l_any := f29, d_l_any := _, F_l_any := fun_mk (st := s_l_any) l29 c29 k29, b_l_any := (fun_mk (st := s_l_any) l29 c29 k29).binds (ps := ["_law_left_here", "_law_deep"]) fun _ _ _ _ _ _ us hl => match us, hl with | [_, _], _ => rfl, g_l_any := PySem.W.mg_of X G a29,
      f_l_uneven := f30, d_l_uneven := _, F_l_uneven := fun_mk (st := s_l_uneven) l30 c30 k30, b_l_uneven := (fun_mk (st := s_l_uneven) l30 c30 k30).binds (ps := ["_law_left_here", "_law_palette_here", "_law_numbers", "_law_most"]) fun _ _ _ _ _ _ us hl => match us, hl with | [_, _, _, _], _ => rfl, g_l_uneven := PySem.W.mg_of X G a30,
      f_l_greater := f31, d_l_greater := _, F_l_greater := fun_mk (st := s_l_greater) l31 c31 k31, b_l_greater := (fun_mk (st := s_l_greater) l31 c31 k31).binds (ps := ["_law_left_here", "_law_box_here"]) fun _ _ _ _ _ _ us hl => match us, hl with | [_, _], _ => rfl, g_l_greater := PySem.W.mg_of X G a31,
      f_l_box_bent := f32, d_l_box_bent := _, F_l_box_bent := fun_mk (st := s_l_box_bent) l32 c32 k32, b_l_box_bent := (fun_mk (st := s_l_box_bent) l32 c32 k32).binds (ps := ["_law_left_here", "_law_box_here"]) fun _ _ _ _ _ _ us hl => match us, hl with | [_, _], _ => rfl, g_l_box_bent := PySem.W.mg_of X G a32,
      f_l_leaf_bent := f33, d_l_leaf_bent := _, F_l_leaf_bent := fun_mk (st := s_l_leaf_bent) l33 c33 k33, b_l_leaf_bent := (fun_mk (st := s_l_leaf_bent) l33 c33 k33).binds (ps := ["_law_left_here", "_law_palette_here", "_law_node"]) fun _ _ _ _ _ _ us hl => match us, hl with | [_, _, _], _ => rfl, g_l_leaf_bent := PySem.W.mg_of X G a33,
      f_l_bent := f34, d_l_bent := _, F_l_bent := fun_mk (st := s_l_bent) l34 c34 k34, b_l_bent := (fun_mk (st := s_l_bent) l34 c34 k34).binds (ps := ["_law_left_here", "_law_palette_here", "_law_node"]) fun _ _ _ _ _ _ us hl => match us, hl with | [_, _, _], _ => rfl, g_l_bent := PySem.W.mg_of X G a34,
      f_l_under := f35, d_l_under := _, F_l_under := fun_mk (st := s_l_under) l35 c35 k35, b_l_under := (fun_mk (st := s_l_under) l35 c35 k35).binds (ps := ["_law_node"]) fun _ _ _ _ _ _ us hl => match us, hl with | [_], _ => rfl, g_l_under := PySem.W.mg_of X G a35,
      f_l_as_due := f36, d_l_as_due := _, F_l_as_due := fun_mk (st := s_l_as_due) l36 c36 k36, b_l_as_due := (fun_mk (st := s_l_as_due) l36 c36 k36).binds (ps := ["_law_palette_here", "_law_most", "_law_thing"]) fun _ _ _ _ _ _ us hl => match us, hl with | [_, _, _], _ => rfl, g_l_as_due := PySem.W.mg_of X G a36,
      z_abs := PySem.W.mg_none_of X G z_abs,
      z_all := PySem.W.mg_none_of X G z_all,
      z_bool := PySem.W.mg_none_of X G z_bool,
      z_int := PySem.W.mg_none_of X G z_int,
      z_isinstance := PySem.W.mg_none_of X G z_isinstance,
      z_len := PySem.W.mg_none_of X G z_len,
      z_list := PySem.W.mg_none_of X G z_list,
      z_max := PySem.W.mg_none_of X G z_max,
      z_min := PySem.W.mg_none_of X G z_min,
      z_range := PySem.W.mg_none_of X G z_range,
      z_set := PySem.W.mg_none_of X G z_set,
      z_sorted := PySem.W.mg_none_of X G z_sorted,
      z_str := PySem.W.mg_none_of X G z_str,
      z_tuple := PySem.W.mg_none_of X G z_tuple,
      z_zip := PySem.W.mg_none_of X G z_zip } (fun_mk (st := s_law) l37 c37 k37) (by decide)⟩
end Z
open PySem PySem.W PyProof.Rows
set_option maxHeartbeats 0 in
theorem PySem.Challenge.cw_fewcolours_k20_what_is_a_tree_holds : PySem.Challenge.rw_fewcolours_k20_what_is_a_tree.Holds := by
  w_on; o_law; k_head; (case hw => w_witness2)
  k_fill
  refine Z.walk_of2 (l := PySem.Challenge.rw_fewcolours_k20_what_is_a_tree) (n := 63) (k := 48) (x := "_law_script") (sp := fun w => Z.spLaw _) rfl (by decide) rfl ⟨rfl, by decide, by decide⟩ (fun w h Y => PySem.W.kIn_of Y) ?F (fun _ _ a ns hl _ hS => ⟨a, ns, rfl, hS, (fun _ h => nomatch h), hl, fun _ => rfl⟩)
  case F =>
    intro w mg fa h KX G hmg
    refine' Z.all_mk KX G hmg ?a0 ?l0 ?c0 ?k0 ?a1 ?l1 ?c1 ?k1 ?a2 ?l2 ?c2 ?k2 ?a3 ?l3 ?c3 ?k3 ?a4 ?l4 ?c4 ?k4 ?a5 ?l5 ?c5 ?k5 ?a6 ?l6 ?c6 ?k6 ?a7 ?l7 ?c7 ?k7 ?a8 ?l8 ?c8 ?k8 ?a9 ?l9 ?c9 ?k9 ?a10 ?l10 ?c10 ?k10 ?a11 ?l11 ?c11 ?k11 ?a12 ?l12 ?c12 ?k12 ?a13 ?l13 ?c13 ?k13 ?a14 ?l14 ?c14 ?k14 ?a15 ?l15 ?c15 ?k15 ?a16 ?l16 ?c16 ?k16 ?a17 ?l17 ?c17 ?k17 ?a18 ?l18 ?c18 ?k18 ?a19 ?l19 ?c19 ?k19 ?a20 ?l20 ?c20 ?k20 ?a21 ?l21 ?c21 ?k21 ?a22 ?l22 ?c22 ?k22 ?a23 ?l23 ?c23 ?k23 ?a24 ?l24 ?c24 ?k24 ?a25 ?l25 ?c25 ?k25 ?a26 ?l26 ?c26 ?k26 ?a27 ?l27 ?c27 ?k27 ?a28 ?l28 ?c28 ?k28 ?a29 ?l29 ?c29 ?k29 ?a30 ?l30 ?c30 ?k30 ?a31 ?l31 ?c31 ?k31 ?a32 ?l32 ?c32 ?k32 ?a33 ?l33 ?c33 ?k33 ?a34 ?l34 ?c34 ?k34 ?a35 ?l35 ?c35 ?k35 ?a36 ?l36 ?c36 ?k36 ?a37 ?l37 ?c37 ?k37 ?z_abs ?z_all ?z_bool ?z_int ?z_isinstance ?z_len ?z_list ?z_max ?z_min ?z_range ?z_set ?z_sorted ?z_str ?z_tuple ?z_zip
    case a0 => k_is
    case l0 => k_is
    case c0 => k_is
    case k0 => k_is
    case a1 => k_is
    case l1 => k_is
    case c1 => k_is
    case k1 => k_is
    case a2 => k_is
    case l2 => k_is
    case c2 => k_is
    case k2 => k_is
    case a3 => k_is
    case l3 => k_is
    case c3 => k_is
    case k3 => k_is
    case a4 => k_is
    case l4 => k_is
    case c4 => k_is
    case k4 => k_is
    case a5 => k_is
    case l5 => k_is
    case c5 => k_is
    case k5 => k_is
    case a6 => k_is
    case l6 => k_is
    case c6 => k_is
    case k6 => k_is
    case a7 => k_is
    case l7 => k_is
    case c7 => k_is
    case k7 => k_is
    case a8 => k_is
    case l8 => k_is
    case c8 => k_is
    case k8 => k_is
    case a9 => k_is
    case l9 => k_is
    case c9 => k_is
    case k9 => k_is
    case a10 => k_is
    case l10 => k_is
    case c10 => k_is
    case k10 => k_is
    case a11 => k_is
    case l11 => k_is
    case c11 => k_is
    case k11 => k_is
    case a12 => k_is
    case l12 => k_is
    case c12 => k_is
    case k12 => k_is
    case a13 => k_is
    case l13 => k_is
    case c13 => k_is
    case k13 => k_is
    case a14 => k_is
    case l14 => k_is
    case c14 => k_is
    case k14 => k_is
    case a15 => k_is
    case l15 => k_is
    case c15 => k_is
    case k15 => k_is
    case a16 => k_is
    case l16 => k_is
    case c16 => k_is
    case k16 => k_is
    case a17 => k_is
    case l17 => k_is
    case c17 => k_is
    case k17 => k_is
    case a18 => k_is
    case l18 => k_is
    case c18 => k_is
    case k18 => k_is
    case a19 => k_is
    case l19 => k_is
    case c19 => k_is
    case k19 => k_is
    case a20 => k_is
    case l20 => k_is
    case c20 => k_is
    case k20 => k_is
    case a21 => k_is
    case l21 => k_is
    case c21 => k_is
    case k21 => k_is
    case a22 => k_is
    case l22 => k_is
    case c22 => k_is
    case k22 => k_is
    case a23 => k_is
    case l23 => k_is
    case c23 => k_is
    case k23 => k_is
    case a24 => k_is
    case l24 => k_is
    case c24 => k_is
    case k24 => k_is
    case a25 => k_is
    case l25 => k_is
    case c25 => k_is
    case k25 => k_is
    case a26 => k_is
    case l26 => k_is
    case c26 => k_is
    case k26 => k_is
    case a27 => k_is
    case l27 => k_is
    case c27 => k_is
    case k27 => k_is
    case a28 => k_is
    case l28 => k_is
    case c28 => k_is
    case k28 => k_is
    case a29 => k_is
    case l29 => k_is
    case c29 => k_is
    case k29 => k_is
    case a30 => k_is
    case l30 => k_is
    case c30 => k_is
    case k30 => k_is
    case a31 => k_is
    case l31 => k_is
    case c31 => k_is
    case k31 => k_is
    case a32 => k_is
    case l32 => k_is
    case c32 => k_is
    case k32 => k_is
    case a33 => k_is
    case l33 => k_is
    case c33 => k_is
    case k33 => k_is
    case a34 => k_is
    case l34 => k_is
    case c34 => k_is
    case k34 => k_is
    case a35 => k_is
    case l35 => k_is
    case c35 => k_is
    case k35 => k_is
    case a36 => k_is
    case l36 => k_is
    case c36 => k_is
    case k36 => k_is
    case a37 => k_is
    case l37 => k_is
    case c37 => k_is
    case k37 => k_is
    case z_abs => k_is
    case z_all => k_is
    case z_bool => k_is
    case z_int => k_is
    case z_isinstance => k_is
    case z_len => k_is
    case z_list => k_is
    case z_max => k_is
    case z_min => k_is
    case z_range => k_is
    case z_set => k_is
    case z_sorted => k_is
    case z_str => k_is
    case z_tuple => k_is
    case z_zip => k_is

