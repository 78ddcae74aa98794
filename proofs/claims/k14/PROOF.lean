import PyProof.Rows.All
import Wide.All
import OpenK.AllK
import Wide.FinOn
import HandS.ForMost
import HandS.Wide
import HandS.Conv
import HandS.IsInst
import HandS.Walk
import HandS.TupAny
import HandS.TupMul
import HandS.TryOnly
import HandS.Style
import HandS.Flow
import HandS.Deep
import HandS.ForExc
import HandS.ExcInit
import HandS.ExcIs
import HandS.ExcField
import HandS.Defaults
import HandS.RaiseMore
import KE.KExcIs
import HandS.OwnEq
import HandS.SlotsOwn
import PyProof.InstNe
import PyProof.ReprRoads
import PyProof.CallFns
import PySem.Challenge.RW_ringsums_k14_slips_made_and_refused
set_option Elab.async false
set_option linter.all false
set_option maxRecDepth 100000
set_option maxHeartbeats 4000000
namespace Rs
open PySem PySem.Spec PyProof.Rows L2

/-! ### what never changes: tuples, instances, their dicts -/
def frozen : HO → Prop
  | .tup _ => True
  | .ins _ _ _ => True
  | .own _ => True
  | .frz _ _ => True
  | _ => False
def Fz (H H' : Hp) : Prop := ∀ a o, frozen o → H a = some o → H' a = some o
theorem Fz.refl (H : Hp) : Fz H H := fun _ _ _ h => h
theorem Fz.trans {H H1 H2 : Hp} (a : Fz H H1) (b : Fz H1 H2) : Fz H H2 := fun x o f h => b x o f (a x o f h)
theorem Fz.of_same {H H' : Hp} (s : Same H H') : Fz H H' := fun a o _ h => s a o h
theorem same_new {H : Hp} {p : Addr} {o : HO} (h : H p = none) : Same H (upd H p o) := fun b x e => by
  rw [upd_ne (ne_of_none e h)]
  exact e
theorem Fz.new {H : Hp} {p : Addr} {o : HO} (h : H p = none) : Fz H (upd H p o) := Fz.of_same (same_new h)
theorem Fz.lst {H : Hp} {p : Addr} {xs : List V} {o : HO} (h : H p = some (.lst xs)) : Fz H (upd H p o) := fun a u f e => by
  have : a ≠ p := by
    rintro rfl
    rw [h] at e
    cases e
    exact f
  rw [upd_ne this]
  exact e

/-! ### data of tuples -/
mutual
inductive Dt (K : PySem.W.Frag) (H : Hp) : V → PyData → Prop
  | non : Dt K H .non .none
  | bl (b : Bool) : Dt K H (.bl b) (.bool b)
  | int (i : Int) : Dt K H (.int i) (.int i)
  | str (x : Str) : Dt K H (.str x) (.str x)
  | tup {a : Addr} {xs : List V} {ds : List PyData} : SqT K H a xs → DtAll K H xs ds → Dt K H (.ref a) (.tuple ds)
inductive DtAll (K : PySem.W.Frag) (H : Hp) : List V → List PyData → Prop
  | nil : DtAll K H [] []
  | cons {v : V} {vs : List V} {d : PyData} {ds : List PyData} : Dt K H v d → DtAll K H vs ds → DtAll K H (v :: vs) (d :: ds)
end
theorem Fz.sqT {K : PySem.W.Frag} {H H' : Hp} {a : Addr} {xs : List V} (e : Fz H H') (h : SqT K H a xs) : SqT K H' a xs := by
  rcases h with (h | ⟨o, h⟩) | h
  · exact .inl (.inl (e _ _ trivial h))
  · exact .inl (.inr ⟨o, e _ _ trivial h⟩)
  · exact .inr h
mutual
theorem Dt.mono {K : PySem.W.Frag} {H H' : Hp} (e : Fz H H') : ∀ {v : V} {d : PyData}, Dt K H v d → Dt K H' v d
  | _, _, .non => .non
  | _, _, .bl b => .bl b
  | _, _, .int i => .int i
  | _, _, .str x => .str x
  | _, _, .tup h hs => .tup (e.sqT h) (DtAll.mono e hs)
theorem DtAll.mono {K : PySem.W.Frag} {H H' : Hp} (e : Fz H H') : ∀ {v : List V} {d : List PyData}, DtAll K H v d → DtAll K H' v d
  | _, _, .nil => .nil
  | _, _, .cons h hs => .cons (h.mono e) (DtAll.mono e hs)
end
mutual
theorem Dt.dp {K : PySem.W.Frag} {H : Hp} : ∀ {v : V} {d : PyData}, Dt K H v d → Dp K H v d
  | _, _, .non => .non
  | _, _, .bl b => .bl b
  | _, _, .int i => .int i
  | _, _, .str x => .str x
  | _, _, .tup h hs => .tup h (DtAll.dp hs)
theorem DtAll.dp {K : PySem.W.Frag} {H : Hp} : ∀ {v : List V} {d : List PyData}, DtAll K H v d → DpAll K H v d
  | _, _, .nil => .nil
  | _, _, .cons h hs => .cons h.dp (DtAll.dp hs)
end
theorem DtAll.length {K : PySem.W.Frag} {H : Hp} : ∀ {v : List V} {d : List PyData}, DtAll K H v d → v.length = d.length
  | _, _, .nil => rfl
  | _, _, .cons _ hs => congrArg (· + 1) hs.length
theorem DtAll.append {K : PySem.W.Frag} {H : Hp} : ∀ {v w : List V} {d e : List PyData}, DtAll K H v d → DtAll K H w e → DtAll K H (v ++ w) (d ++ e)
  | _, _, _, _, .nil, k => k
  | _, _, _, _, .cons h hs, k => .cons h (hs.append k)
theorem DtAll.get {K : PySem.W.Frag} {H : Hp} : ∀ {v : List V} {d : List PyData} {i : Nat} {x : PyData}, DtAll K H v d → d[i]? = some x → ∃ y, v[i]? = some y ∧ Dt K H y x
  | _, _, i, x, .nil, e => by simp at e
  | _, _, 0, x, .cons h _, e => ⟨_, rfl, by
      have : _ = x := Option.some.inj e
      exact this ▸ h⟩
  | _, _, i + 1, x, .cons _ hs, e => by
    have e' := e
    simp only [List.getElem?_cons_succ] at e' ⊢
    exact hs.get e'
theorem DtAll.getV {K : PySem.W.Frag} {H : Hp} : ∀ {v : List V} {d : List PyData} {i : Nat} {y : V}, DtAll K H v d → v[i]? = some y → ∃ x, d[i]? = some x ∧ Dt K H y x
  | _, _, i, x, .nil, e => by simp at e
  | _, _, 0, x, .cons h _, e => ⟨_, rfl, by
      have : _ = x := Option.some.inj e
      exact this ▸ h⟩
  | _, _, i + 1, x, .cons _ hs, e => by
    have e' := e
    simp only [List.getElem?_cons_succ] at e' ⊢
    exact hs.getV e'

/-! ### the box of draws -/
structure BoxI (x y z : Int) : Prop where
  x0 : 0 ≤ x
  y1 : 1 ≤ y
  y2 : y ≤ 2147483629
def boxL (x y z : Int) : List V := [.int x, .int y, .int z]
def Box (H : Hp) (b : Addr) : Prop := ∃ x y z, H b = some (.lst (boxL x y z)) ∧ BoxI x y z
/-- all but the list at b is as it was -/
def But (b : Addr) (H H' : Hp) : Prop := ∀ a o, a ≠ b → H a = some o → H' a = some o
theorem But.refl (b : Addr) (H : Hp) : But b H H := fun _ _ _ h => h
theorem But.trans {b : Addr} {H H1 H2 : Hp} (x : But b H H1) (y : But b H1 H2) : But b H H2 := fun a o n h => y a o n (x a o n h)
theorem But.of_same {b : Addr} {H H' : Hp} (s : Same H H') : But b H H' := fun a o _ h => s a o h
theorem But.upd {b : Addr} {H H' : Hp} {o : HO} (s : But b H H') : But b H (upd H' b o) := fun a u n h => by
  rw [upd_ne n]
  exact s a u n h
theorem Box.same {b : Addr} {H H' : Hp} (x : Box H b) (s : Same H H') : Box H' b := by
  obtain ⟨x, y, z, h, i⟩ := x
  exact ⟨x, y, z, s _ _ h, i⟩
theorem Box.fz {b : Addr} {H H' : Hp} (x : Box H b) (s : But b H H') : Fz H H' := fun a o f h => by
  refine s a o ?_ h
  rintro rfl
  obtain ⟨x, y, z, h', i⟩ := x
  rw [h'] at h
  cases h
  exact f
theorem Box.ne_none {b p : Addr} {H : Hp} (x : Box H b) (h : H p = none) : p ≠ b := by
  rintro rfl
  obtain ⟨x, y, z, h', i⟩ := x
  rw [h] at h'
  cases h'
theorem ifB {b : Bool} {A B : Prop} (h1 : b = true → A) (h2 : b = false → B) : if b = true then A else B := by
  cases b with
  | true => rw [if_pos rfl]; exact h1 rfl
  | false => rw [if_neg Bool.false_ne_true]; exact h2 rfl
theorem ifD {c A B : Prop} [Decidable c] (h1 : c → A) (h2 : ¬ c → B) : if decide c = true then A else B := ifB (fun e => h1 (of_decide_eq_true e)) (fun e => h2 (of_decide_eq_false e))
theorem ifN {c A B : Prop} [Decidable c] (h1 : ¬ c → A) (h2 : c → B) : if (!decide c) = true then A else B := by
  by_cases h : c
  · rw [decide_eq_true h]; exact h2 h
  · rw [decide_eq_false h]; exact h1 h
theorem ifT {b : Bool} {A B : Prop} (e : b = true) (h1 : A) : if b = true then A else B := by rw [if_pos e]; exact h1
theorem ifF {b : Bool} {A B : Prop} (e : b = false) (h1 : B) : if b = true then A else B := by rw [e, if_neg Bool.false_ne_true]; exact h1
theorem szL {n : Nat} (h : n ≤ 1000) : n ≤ sizeLine := Nat.le_trans h (by decide)
theorem szl {n : Nat} (h : n ≤ 1000) : n < sizeLine := Nat.lt_of_le_of_lt h (by decide)
theorem atI_ok {xs : List V} {i : Int} {j : Nat} {v : V} (h0 : 0 ≤ i) (e : i.toNat = j) (h : xs[j]? = some v) : atI xs i = some v := at_of (by omega) h
theorem ints_at {ns : List Int} {k : Int} (h0 : 0 ≤ k) (h1 : k < ns.length) : ∃ z, atI (ns.map V.int) k = some (.int z) := by
  have h2 : k.toNat < ns.length := by omega
  exact ⟨ns[k.toNat], atI_ok h0 rfl (by rw [List.getElem?_map, List.getElem?_eq_getElem h2]; rfl)⟩
theorem range_succ_map {α : Type} (f : Nat → α) (i : Nat) : (List.range (i + 1)).map f = (List.range i).map f ++ [f i] := by
  rw [List.range_succ, List.map_append]; rfl
theorem DtAll.snoc {K : PySem.W.Frag} {H : Hp} {v : List V} {d : List PyData} {x : V} {y : PyData} (h : DtAll K H v d) (k : Dt K H x y) : DtAll K H (v ++ [x]) (d ++ [y]) := h.append (.cons k .nil)
theorem same_lst {H H' : Hp} {p : Addr} {o : HO} (s : Same H H') (n : H p = none) : Same H (upd H' p o) := fun a u e => by
  rw [upd_ne (ne_of_none e n)]
  exact s a u e
theorem natAbs_abs {i : Int} : 0 ≤ (if i < 0 then -i else i) := by split <;> omega
theorem pick2 (b : Bool) (u v : Int) : atI [.int u, .int v] (if b = true then 1 else 0) = some (V.int (if b = true then v else u)) := by
  cases b <;> rfl
theorem ite_ge0 {b : Bool} {u v : Int} (h1 : 0 ≤ u) (h2 : 0 ≤ v) : 0 ≤ (if b = true then v else u) := by cases b <;> assumption
theorem mem_at {xs : List V} {k : Int} (h0 : 0 ≤ k) (h1 : k < xs.length) : ∃ v, v ∈ xs ∧ atI xs k = some v := by
  have h2 : k.toNat < xs.length := by omega
  exact ⟨xs[k.toNat], List.getElem_mem h2, atI_ok h0 rfl (List.getElem?_eq_getElem h2)⟩
/-! reading tuples of data -/
def atD (ds : List PyData) (i : Int) : Option PyData := (ixN ds.length i).bind fun j => ds[j]?
theorem DtAll.at {K : PySem.W.Frag} {H : Hp} {xs : List V} {ds : List PyData} {i : Int} {d : PyData} (h : DtAll K H xs ds) (e : atD ds i = some d) : ∃ v, atI xs i = some v ∧ Dt K H v d := by
  unfold atD at e
  unfold atI
  rw [h.length]
  cases q : ixN ds.length i with
  | none => rw [q] at e; cases e
  | some j =>
    rw [q] at e
    exact h.get e
theorem rix_dt {K : PySem.W.Frag} {H : Hp} {v : V} {i : Int} {ds : List PyData} {d : PyData} {Q : VK} (h : Dt K H v (.tuple ds)) (e : atD ds i = some d) (q : ∀ y, Dt K H y d → Q y H) : rIxT K v (.int i) H Q := by
  cases h with
  | tup hs ha =>
    obtain ⟨y, h1, h2⟩ := ha.at e
    exact ⟨_, _, _, _, rfl, rfl, hs, h1, q y h2⟩
theorem Dt.int_eq {K : PySem.W.Frag} {H : Hp} {v : V} {i : Int} (h : Dt K H v (.int i)) : v = .int i := by cases h; rfl
theorem Dt.str_eq {K : PySem.W.Frag} {H : Hp} {v : V} {i : Str} (h : Dt K H v (.str i)) : v = .str i := by cases h; rfl
theorem atD_nat {ds : List PyData} {j : Nat} {d : PyData} (e : ds[j]? = some d) : atD ds ((j : Nat) : Int) = some d := by
  have h := (List.getElem?_eq_some_iff.mp e).1
  unfold atD ixN
  rw [if_pos (by omega), if_pos (by omega)]
  exact e
theorem atD_last {ds : List PyData} {d : PyData} (h : 0 < ds.length) (e : ds[ds.length - 1]? = some d) : atD ds (-1) = some d := by
  unfold atD ixN
  rw [if_neg (by omega), if_pos (by omega)]
  show ds[((-1 : Int) + ds.length).toNat]? = some d
  rw [show ((-1 : Int) + ds.length).toNat = ds.length - 1 by omega]
  exact e
def tyD : PyData → String
  | .none => "NoneType"
  | .bool _ => "bool"
  | .int _ => "int"
  | .str _ => "str"
  | .list _ => "list"
  | .tuple _ => "tuple"
  | .dict _ => "dict"
theorem sqT_ty {K : PySem.W.Frag} {H : Hp} {a : Addr} {xs : List V} (h : SqT K H a xs) : TyX K H (.ref a) (.type "tuple") := by
  rcases h with (h | ⟨o, h⟩) | ⟨o, its, n, h1, h2, _⟩
  · exact .base (.tup h)
  · exact .fTuple h
  · exact .kTuple h1 h2
theorem Dt.ty {K : PySem.W.Frag} {H : Hp} {v : V} {d : PyData} (h : Dt K H v d) : TyX K H v (.type (tyD d)) := by
  cases h with
  | non => exact .base .non
  | bl b => exact .base (.bl b)
  | int i => exact .base (.int i)
  | str x => exact .base (.str x)
  | tup h _ => exact sqT_ty h
theorem neF {a b : Int} (h : a = b) : (!decide (V.int a = V.int b)) = false := by rw [h]; simp
theorem Dt.len {K : PySem.W.Frag} {H : Hp} {a : Addr} {ds : List PyData} (h : Dt K H (.ref a) (.tuple ds)) : ∃ xs, SqT K H a xs ∧ xs.length = ds.length ∧ DtAll K H xs ds := by
  cases h with
  | tup h hs => exact ⟨_, h, hs.length, hs⟩

structure okD (k : Nat) (d : PyData) : Prop where
  lay : d.canLay0 = true
  dep : d.depth ≤ k
theorem okD.mono {k l : Nat} {d : PyData} (h : okD k d) (e : k ≤ l) : okD l d := ⟨h.lay, Nat.le_trans h.dep e⟩
theorem okD_all {k : Nat} : ∀ {ds : List PyData}, (∀ d ∈ ds, okD k d) → PyData.canLayAll0 ds = true ∧ PyData.depthAll ds ≤ k
  | [], _ => ⟨rfl, Nat.zero_le _⟩
  | d :: ds, h => by
    have h1 := h d List.mem_cons_self
    have h2 := okD_all (ds := ds) fun x hx => h x (List.mem_cons_of_mem _ hx)
    refine ⟨?_, ?_⟩
    · show (PyData.canLay0 d && PyData.canLayAll0 ds) = true
      rw [h1.lay, h2.1]; rfl
    · show max (PyData.depth d) (PyData.depthAll ds) ≤ k
      exact Nat.max_le.mpr ⟨h1.dep, h2.2⟩
theorem okD.tuple {k : Nat} {ds : List PyData} (h : ∀ d ∈ ds, okD k d) : okD (k + 1) (.tuple ds) :=
  have q := okD_all h
  ⟨q.1, Nat.succ_le_succ q.2⟩
theorem okD.list {k : Nat} {ds : List PyData} (h : ∀ d ∈ ds, okD k d) : okD (k + 1) (.list ds) :=
  have q := okD_all h
  ⟨q.1, Nat.succ_le_succ q.2⟩
theorem okD.shaped {k : Nat} {d : PyData} (h : okD k d) (hk : k ≤ 64) : SeqAt.shaped d = true := by
  unfold SeqAt.shaped
  rw [h.lay, decide_eq_true (Nat.le_trans h.dep hk)]; rfl
theorem eqv_self {k : Nat} {d : PyData} (h : okD k d) : PyData.eqv d d = true := SeqAt.eqv_refl d h.lay
theorem rne_dt {K : PySem.W.Frag} {H : Hp} {x y : V} {k : Nat} {d : PyData} {Q : VK} (hx : Dt K H x d) (hy : Dt K H y d) (o : okD k d) (hk : k ≤ 64) (q : Q (.bl false) H) : rNeD K x y H Q :=
  ⟨d, d, hx.dp, hy.dp, o.shaped hk, o.shaped hk, by rw [eqv_self o]; exact q⟩
theorem req_dt {K : PySem.W.Frag} {H : Hp} {x y : V} {k : Nat} {d : PyData} {Q : VK} (hx : Dt K H x d) (hy : Dt K H y d) (o : okD k d) (hk : k ≤ 64) (q : Q (.bl true) H) : rEqD K x y H Q :=
  ⟨d, d, hx.dp, hy.dp, o.shaped hk, o.shaped hk, by rw [eqv_self o]; exact q⟩

theorem atD0 {ds : List PyData} {d : PyData} (e : ds[0]? = some d) : atD ds 0 = some d := atD_nat (j := 0) e
theorem atD1 {ds : List PyData} {d : PyData} (e : ds[1]? = some d) : atD ds 1 = some d := atD_nat (j := 1) e
theorem atD2 {ds : List PyData} {d : PyData} (e : ds[2]? = some d) : atD ds 2 = some d := atD_nat (j := 2) e
theorem atD3 {ds : List PyData} {d : PyData} (e : ds[3]? = some d) : atD ds 3 = some d := atD_nat (j := 3) e
theorem atDi {ds : List PyData} {d : PyData} {i : Int} {j : Nat} (h : i = (j : Int)) (e : ds[j]? = some d) : atD ds i = some d := by
  subst h
  exact atD_nat e

theorem floor_step {a b n : Int} (h : 0 < n) : b / n ≤ (a + b) / n - a / n ∧ (a + b) / n - a / n ≤ b / n + 1 := by
  have ha := Int.emod_add_mul_ediv a n
  have hb := Int.emod_add_mul_ediv b n
  have a0 := Int.emod_nonneg a (show n ≠ 0 by omega)
  have a1 := Int.emod_lt_of_pos a h
  have b0 := Int.emod_nonneg b (show n ≠ 0 by omega)
  have b1 := Int.emod_lt_of_pos b h
  have e : (a + b) / n = a / n + b / n + (a % n + b % n) / n := by
    have : a + b = (a % n + b % n) + n * (a / n + b / n) := by rw [Int.mul_add]; omega
    rw [this, Int.add_mul_ediv_left _ _ (by omega), Int.add_comm]
  have q0 : 0 ≤ (a % n + b % n) / n := Int.ediv_nonneg (by omega) (by omega)
  have q1 : (a % n + b % n) / n < 2 := by
    apply Int.ediv_lt_of_lt_mul h
    omega
  omega

theorem take_snoc {α : Type} {l : List α} {i : Nat} {x : α} (h : l[i]? = some x) : l.take (i + 1) = l.take i ++ [x] := by
  rw [List.take_add_one, h]; rfl
theorem map_int_get {acc : List Int} {i : Nat} {x : V} (h : (acc.map V.int)[i]? = some x) : ∃ z, acc[i]? = some z ∧ x = .int z := by
  rw [List.getElem?_map] at h
  cases e : acc[i]? with
  | none => rw [e] at h; cases h
  | some z =>
    rw [e] at h
    exact ⟨z, rfl, (Option.some.inj h).symm⟩

theorem Dt.ix {K : PySem.W.Frag} {H : Hp} {v : V} {i : Int} {ds : List PyData} {d : PyData} (h : Dt K H v (.tuple ds)) (e : atD ds i = some d) : ∃ a xs y, v = .ref a ∧ SqT K H a xs ∧ atI xs i = some y ∧ Dt K H y d := by
  cases h with
  | tup hs ha =>
    obtain ⟨y, h1, h2⟩ := ha.at e
    exact ⟨_, _, _, rfl, hs, h1, h2⟩

/-! displays of data -/
def EvD (K : PySem.W.Frag) (te : TE) (σ : L2.St) (H : Hp) (d : PyData) : Prop := ∀ Q : VK, (∀ v H', Same H H' → Dt K H' v d → Q v H') → te σ H Q
def EvDs (K : PySem.W.Frag) (ta : TA) (σ : L2.St) (H : Hp) (ds : List PyData) : Prop := ∀ Q : List V → Hp → Prop, (∀ vs H', Same H H' → DtAll K H' vs ds → Q vs H') → ta σ H Q
section
variable {K : PySem.W.Frag} {σ : L2.St} {H : Hp}
theorem evd_int {i : Int} : EvD K (tC (.int i)) σ H (.int i) := fun _ q => q _ _ (Same.refl _) (.int i)
theorem evd_str {i : Str} : EvD K (tC (.str i)) σ H (.str i) := fun _ q => q _ _ (Same.refl _) (.str i)
theorem evd_non : EvD K (tC .non) σ H .none := fun _ q => q _ _ (Same.refl _) .non
theorem evd_bl {b : Bool} : EvD K (tC (.bl b)) σ H (.bool b) := fun _ q => q _ _ (Same.refl _) (.bl b)
theorem evd_nil : EvDs K tNil σ H [] := fun _ q => q _ _ (Same.refl _) .nil
theorem evd_cons {te : TE} {ta : TA} {d : PyData} {ds : List PyData} (h : EvD K te σ H d) (hr : ∀ H', EvDs K ta σ H' ds) : EvDs K (tCons te ta) σ H (d :: ds) := fun Q q =>
  h _ fun v H1 s1 d1 => hr H1 _ fun vs H2 s2 d2 => q _ _ (s1.trans s2) (.cons (d1.mono (Fz.of_same s2)) d2)
theorem evd_tup {ta : TA} {ds : List PyData} (h : EvDs K ta σ H ds) (hl : ds.length ≤ 1000) : EvD K (tTup ta) σ H (.tuple ds) := fun Q q =>
  h _ fun vs H1 s1 d1 => ⟨szL (by rw [d1.length]; exact hl), fun p hp => q _ _ (s1.trans (same_new hp)) (.tup (SqT.of upd_same) (d1.mono (Fz.new hp)))⟩
end
theorem same_but {b : Addr} {H H1 H2 : Hp} (s : Same H H1) (k : But b H1 H2) (n : H b = none) : Same H H2 := fun a o h => k a o (ne_of_none h n) (s a o h)

theorem rel_ref (a : Addr) : RelV (.ref a) (Value.ref a) := rfl
end Rs
/-! Own exceptions with a field; objects made within a try. -/
namespace Rs
open PySem PySem.Spec PyProof.Rows L2
/-! ### C(e, ..) where what its __init__ lets out is wished for at the caller's slots -/
section
variable {X : Cx} {CX : CXT} {k : Nat} {f C : Addr} {fd : FuncData} {ps : List Str} {sp : Sp} {E : L2.St → XK} {x : Str} {p pos : Pos} {e : Expr} {es : List Expr} {t : TA}
theorem run_makeS {pins : List (Addr × Obj)} {σ : L2.St} {H : Hp} {s : Shared} {Q : VK} {us : List Value} {vs : List V} (M : Mk X.K C f) (F : FnOk X.prog X.w X.K X.mg X.base CX k f fd ps sp) (hr : Room (k + 1) X.A) (hb : Binds X.K fd ps [])
    (hx : PassesAt CX X σ (E σ)) (I : Inv X pins σ H s) (r : Vals vs us)
    (pre : ∀ x dx, H x = none → H dx = none → dx ≠ x → sp (.ref x :: vs) (upd (upd H dx (.own x)) x (.ins C dx [])) (fun v H2 => v = .non ∧ Q (.ref x) H2) (E σ))
    (out : ∀ H1 s1 e s2, Inv X pins σ H1 s1 → L2.CX X.prog X.w X.stack H1 s1 (E σ) e s2 → X.xe e s2) (hCX : CX = L2.CX X.prog X.w) :
    wpAny (model X.prog X.w) X.A (call (.ref C) us) (EP X pins σ Q) X.xe s := by
  subst hCX
  have p0 := pre (s.heap.objs.size + 1) s.heap.objs.size (I.hok.fresh (Nat.le_succ _)) (I.hok.fresh (Nat.le_refl _)) (Nat.ne_of_lt (Nat.lt_succ_self _))
  have J := Inv.made (C := C) I
  have rel : Vals (V.ref (s.heap.objs.size + 1) :: vs) (Value.ref (s.heap.objs.size + 1) :: us) := .cons rfl r
  have n1 : (Value.ref (s.heap.objs.size + 1) :: us).length = ps.length := by rw [← rel.length]; exact F.len _ _ _ _ p0
  have bd := hb _ (Value.ref (s.heap.objs.size + 1) :: us) J.kIn (by rw [List.append_nil]; exact n1)
  rw [List.append_nil] at bd
  have ran := F.run _ X.stack _ _ ⟨Value.ref (s.heap.objs.size + 1) :: us, []⟩ _ _ _ (E σ) (hr.make C us []) (J.env0.make C us []) bd rel p0
  refine wpAny_call (make_map (f := f) I.kIn M.makes M.init (beq_iff_eq.mp M.fn) (codeAny_mono ran fun r s' got => ?_))
  cases r with
  | error e => exact out _ _ _ _ J got
  | ok fl =>
    cases fl with
    | next => exact got.elim
    | brk => exact got.elim
    | cont => exact got.elim
    | ret u =>
      obtain ⟨v, H', J2, rv, rfl, q⟩ := J.after got
      exact ⟨rv, .ref (s.heap.objs.size + 1), H', J2, rfl, q⟩
def tMakeS (C : Addr) (sp : Sp) (E : L2.St → XK) (t : TA) : TE := fun σ H Q => t σ H fun vs H1 => ∀ x dx, H1 x = none → H1 dx = none → dx ≠ x →
  sp (.ref x :: vs) (upd (upd H1 dx (.own x)) x (.ins C dx [])) (fun v H2 => v = .non ∧ Q (.ref x) H2) (E σ)
theorem pe_makeS {W : WX} (M : Mk X.K C f) (F : FnOk X.prog X.w X.K X.mg X.base (L2.CX X.prog X.w) k f fd ps sp) (hr : Room (k + 1) X.A) (hg : Gl X x) (hm : X.mg x = some (.ref C)) (hb : Binds X.K fd ps []) (tk : Takes X W)
    (ha : PA X (e :: es) t) (hdb : (x == ("__debug__" : Str)) = false := by decide) (he : starEach (e :: es) X.env = (false, eval e X.env) :: starEach es X.env := by rfl) (hpl : (backTo pos (starEach es X.env)).any (·.1) = false := by rfl) :
    PE X (.Call (.Name x p) (e :: es) [] pos) (tMakeS C sp (WE W) t) := by
  refine ⟨fun pins s σ H Q I h => wpAny_Call_Name_kw (ld_glob I hg hm ?_ hdb)⟩
  refine PySem.W.callWith_K (h₀ := X.base) I.ok.mod.kin M.kp (thn (ha.run pos pins s σ H _ I h) fun us s1 res => ?_) he hpl
  obtain ⟨vs, H1, I1, r, q⟩ := res
  exact ⟨I1.kIn, run_makeS M F hr hb (passAt tk σ) I1 r q (fun H1 s1 e s2 J c => tk e s2 (XE.of_call J (fun _ _ _ h => h) c)) rfl⟩
end
/-! ### isinstance of a caught exception that has a field -/
structure ExX (K : PySem.W.Frag) (C : Addr) : Prop where
  cl : (PySem.W.clsIn K C).isSome = true
  ga : PySem.W.findIn K (.ref C) "__getattribute__" = some (some (.builtin "BaseException.__getattribute__"))
  gg : PySem.W.findIn K (.ref C) "__getattr__" = some none
  sb : PySem.W.subIn K (.ref C) (.type "BaseException") = some true
  ca : PySem.W.findIn K (.ref C) "__class__" = some (some (.builtin "object.__class__"))
  sp : PySem.W.specialIn K (.builtin "object.__class__") "__get__" = some (some (.builtin "getset_descriptor.__get__"))
  tk : PySem.W.takesIn K (.builtin "object.__class__") = some true
  mo : PySem.W.mroIn K C (.type "object") = some true
section
variable {X : Cx} {pins : List (Addr × Obj)} {σ : L2.St} {H : Hp} {s : Shared} {a C : Addr} {oe : Obj} {cls : Value} {d : Option Addr} {pn : List (Addr × Obj)}
theorem caught_at (I : Inv (X.suite a ((a, oe) :: pn)) pins σ H s) (hz : Zc cls d oe) (hf : ∃ vs, oe.data = .fields vs) {dd : Addr} {fs : List (Str × V)} (ec : cls = .ref C) (ed : d = some dd) (hd : H dd = some (.xd fs)) :
    ∃ od, PySem.W.InstAt s.heap a oe C (some od) := by
  subst ec ed
  obtain ⟨here, _⟩ := I.pin (a, oe) (List.mem_append_left _ List.mem_cons_self)
  obtain ⟨vs, hv⟩ := hf
  obtain ⟨mA, ns, _⟩ := (show ObjOk X.prog X.w H s.heap dd (.xd fs) from I.hok dd _ hd)
  obtain ⟨od, ho, _⟩ := lookIn_ns ns
  exact ⟨od, here, hz.1, by unfold PySem.W.notCls; rw [hv] <;> rfl, by rw [hz.2]; exact ho⟩
def rIsX (K : PySem.W.Frag) (a : Addr) (cls : Value) (d : Option Addr) (C : Addr) : List V → Hp → VK → Prop := fun xs H Q => ∃ (c : V) (cv : Value) (b : Bool) (dd : Addr) (fs : List (Str × V)), xs = [.ref a, c] ∧ ClsV c cv ∧ cls = .ref C ∧ d = some dd ∧ H dd = some (.xd fs) ∧ PySem.W.kitOne K (.ref C) cv = some b ∧ Q (.bl b) H
theorem call_isX (T : ExX X.K C) (hz : Zc cls d oe) (hf : ∃ vs, oe.data = .fields vs) : CallR (X.suite a ((a, oe) :: pn)) (.builtin "isinstance") (rIsX X.K a cls d C) := by
  intro pins s σ H xs us Q I r h
  obtain ⟨c, cv, b, dd, fs, rfl, kc, ec, ed, hd, e, q⟩ := h
  obtain ⟨u1, u2, rfl, r1, r2⟩ := vals2 r
  obtain rfl := kc.eq r2
  cases (show u1 = Value.ref a from r1)
  obtain ⟨od, J⟩ := caught_at I hz hf ec ed hd
  exact PySem.W.kia_one (PySem.W.kitx_exc T.cl T.ga T.gg T.sb T.ca T.sp T.tk T.mo) I.kIn J e (fun z => nomatch z) fun tk => ⟨.bl b, H, I.tok tk, rfl, q⟩
def rIsXT (K : PySem.W.Frag) (a : Addr) (cls : Value) (d : Option Addr) (C : Addr) : List V → Hp → VK → Prop := fun xs H Q => ∃ (tp : Addr) (cs : List V) (ws : List Value) (b : Bool) (dd : Addr) (fs : List (Str × V)), xs = [.ref a, .ref tp] ∧ H tp = some (.tup cs) ∧ Paired ClsV cs ws ∧
  cls = .ref C ∧ d = some dd ∧ H dd = some (.xd fs) ∧ PySem.W.kitAny K (.ref C) ws = some b ∧ Q (.bl b) H
theorem call_isXT (T : ExX X.K C) (hz : Zc cls d oe) (hf : ∃ vs, oe.data = .fields vs) : CallR (X.suite a ((a, oe) :: pn)) (.builtin "isinstance") (rIsXT X.K a cls d C) := by
  intro pins s σ H xs us Q I r h
  obtain ⟨tp, cs, ws, b, dd, fs, rfl, hT, kc, ec, ed, hd, e, q⟩ := h
  obtain ⟨u1, u2, rfl, r1, r2⟩ := vals2 r
  cases (show u1 = Value.ref a from r1)
  cases (show u2 = Value.ref tp from r2)
  obtain ⟨od, J⟩ := caught_at I hz hf ec ed hd
  obtain ⟨_, its, rv, o, h1, h2, n, h3⟩ := (show ObjOk X.prog X.w H s.heap tp (.tup cs) from I.hok tp _ hT)
  obtain rfl := ClsV.all kc rv
  obtain ⟨oc, od', dt, sl⟩ := o
  simp only at h2 h3
  subst h2 h3
  exact PySem.W.kia_tup (PySem.W.kitx_exc T.cl T.ga T.gg T.sb T.ca T.sp T.tk T.mo) I.kIn J h1 e (fun z => nomatch z) fun tk => ⟨.bl b, H, I.tok tk, rfl, q⟩
end
/-! ### the promise of an __init__(self, word): self.word = word -/
def spExc (C : Addr) (f : Str) : Sp := fun vs H Q _ => ∃ (a : Addr) (v : V), vs = [.ref a, v] ∧ H a = some (exo a C none) ∧ ∀ dx, H dx = none → dx ≠ a → Q .non (upd (upd H dx (exd dx [(f, v)])) a (exo a C (some dx)))
/-- the heap behind an exception's making -/
theorem made_heap {H : Hp} {a dx : Addr} {o1 o2 o3 o : HO} (ha : H a = none) (ne : dx ≠ a) : upd (del (upd (upd (upd H a o1) dx o2) a o3) a) dx o = upd H dx o := by
  funext b
  by_cases h1 : b = dx
  · subst h1; rw [upd_same, upd_same]
  · rw [upd_ne h1, upd_ne h1]
    by_cases h2 : b = a
    · subst h2; rw [del_same, ha]
    · rw [del_ne h2, upd_ne h2, upd_ne h1, upd_ne h2]
/-- what C(v) asks, where C's __init__ keeps spExc: its dict is new, the rest as it was -/
theorem make_exc {C : Addr} {f : Str} {v : V} {σ : L2.St} {H : Hp} {Q : XK} (h : ∀ d, H d = none → Q (.ref C) (some d) (upd H d (.xd [(f, v)]))) : tMkO C (spExc C f) [] (tCons (tC v) tNil) σ H Q := by
  refine ⟨by show 1 ≤ 1000; decide, fun a ha => ⟨a, v, rfl, upd_same, fun dx hdx ne => ⟨rfl, dx, [(f, v)], upd_same, by rw [upd_ne ne, upd_same], ?_, ?_⟩⟩⟩
  · rw [upd_ne ne] at hdx
    exact hdx
  · rw [made_heap ha ne]
    exact h dx (by rw [upd_ne ne] at hdx; exact hdx)
end Rs
/-! Values of any kind, told by their outermost shape. -/
namespace Rs
open PySem PySem.Spec PyProof.Rows L2
def Sh (b : Addr) (H : Hp) : V → Prop
  | .non => True
  | .bl _ => True
  | .int _ => True
  | .str _ => True
  | .ref a => a ≠ b ∧ ((∃ xs, H a = some (.lst xs)) ∨ ∃ xs, H a = some (.tup xs))
  | _ => False
theorem Sh.but {b : Addr} {H H' : Hp} {v : V} (h : Sh b H v) (k : But b H H') : Sh b H' v := by
  cases v with
  | ref a =>
    obtain ⟨ne, ⟨xs, e⟩ | ⟨xs, e⟩⟩ := h
    · exact ⟨ne, .inl ⟨xs, k a _ ne e⟩⟩
    · exact ⟨ne, .inr ⟨xs, k a _ ne e⟩⟩
  | non => trivial
  | bl _ => trivial
  | int _ => trivial
  | str _ => trivial
  | byt _ => exact h
  | flt _ => exact h
  | ty _ => exact h
def isInt : V → Bool
  | .int _ => true
  | _ => false
def isBl : V → Bool
  | .bl _ => true
  | _ => false
theorem Sh.ty {K : PySem.W.Frag} {b : Addr} {H : Hp} {v : V} (h : Sh b H v) : ∃ t, TyX K H v (.type t) ∧ kitB t "int" = some (isInt v || isBl v) ∧ kitB t "bool" = some (isBl v) := by
  cases v with
  | non => exact ⟨"NoneType", .base .non, by decide +kernel, by decide +kernel⟩
  | bl x => exact ⟨"bool", .base (.bl x), (by decide +kernel : kitB "bool" "int" = some true), (by decide +kernel : kitB "bool" "bool" = some true)⟩
  | int x => exact ⟨"int", .base (.int x), (by decide +kernel : kitB "int" "int" = some true), (by decide +kernel : kitB "int" "bool" = some false)⟩
  | str x => exact ⟨"str", .base (.str x), (by decide +kernel : kitB "str" "int" = some false), (by decide +kernel : kitB "str" "bool" = some false)⟩
  | ref a =>
    obtain ⟨ne, ⟨xs, e⟩ | ⟨xs, e⟩⟩ := h
    · exact ⟨"list", .base (.lst e), (by decide +kernel : kitB "list" "int" = some false), (by decide +kernel : kitB "list" "bool" = some false)⟩
    · exact ⟨"tuple", .base (.tup e), (by decide +kernel : kitB "tuple" "int" = some false), (by decide +kernel : kitB "tuple" "bool" = some false)⟩
  | byt _ => exact h.elim
  | flt _ => exact h.elim
  | ty _ => exact h.elim
/-- whether a value is an integer that is no bool -/
def spWhole : Sp := fun vs H Q _ => ∃ (b : Addr) (v : V), vs = [v] ∧ Sh b H v ∧ Q (.bl (isInt v)) H
theorem isInt_bl {v : V} : (isInt v || isBl v) = true → (!isBl v) = isInt v := by cases v <;> simp [isInt, isBl]
theorem isInt_no {v : V} : (isInt v || isBl v) = false → false = isInt v := by cases v <;> simp [isInt, isBl]
/-- repr of None and of a text -/
def reprV : V → Str
  | .str x => reprText x
  | _ => "None"
theorem call_repr1 {X : Cx} : CallR X (.builtin "repr") (fun xs H Q => ∃ v, xs = [v] ∧ (v = .non ∨ ∃ x : Str, v = .str x ∧ (reprText x).length ≤ sizeLine) ∧ Q (.str (reprV v)) H) := by
  intro pins s σ H xs us Q I r h
  obtain ⟨v, rfl, rfl | ⟨x, rfl, ln⟩, q⟩ := h
  · obtain ⟨u, rfl, ru⟩ := vals1 r
    obtain rfl : u = Value.none := ru
    exact PySem.P.repr_of_none ⟨.str _, H, I.tok _, ⟨_, rfl⟩, q⟩
  · obtain ⟨u, rfl, t, rfl⟩ := vals1 r
    exact PySem.P.repr_of_str ⟨.str _, H, I.tok _, ⟨_, rfl⟩, q⟩ ln
theorem but_new {b D : Addr} {H H' : Hp} {o : HO} (k : But b H H') (n : H D = none) : But b H (upd H' D o) := fun a u ne e => by
  rw [upd_ne (ne_of_none e n)]
  exact k a u ne e
theorem box_ne {b D : Addr} {H : Hp} {o : HO} (B : Box H b) (ne : D ≠ b) : Box (upd H D o) b := by
  obtain ⟨x, y, z, h, i⟩ := B
  exact ⟨x, y, z, by rw [upd_ne ne.symm]; exact h, i⟩

theorem look1 {f : Str} {v : V} : List.lookup f [(f, v)] = some v := by simp [List.lookup]
theorem Sh.set {b t : Addr} {H : Hp} {v : V} {xs ys : List V} (h : Sh b H v) (e : H t = some (.lst xs)) : Sh b (upd H t (.lst ys)) v := by
  cases v with
  | ref a =>
    obtain ⟨ne, q⟩ := h
    refine ⟨ne, ?_⟩
    by_cases c : a = t
    · subst c
      exact .inl ⟨_, upd_same⟩
    · rw [upd_ne c]
      exact q
  | non => trivial
  | bl _ => trivial
  | int _ => trivial
  | str _ => trivial
  | byt _ => exact h
  | flt _ => exact h
  | ty _ => exact h
end Rs
/-! == and != by an own __eq__, with either answer, of anything. -/
namespace Rs
open PySem PySem.Spec PyProof.Rows L2
/-- what of the class at C: its own __eq__ is g, its != is object's -/
structure OwnQ (K : PySem.W.Frag) (C g : Addr) : Prop where
  eq : PySem.W.findIn K (.ref C) "__eq__" = some (some (.ref g))
  fn : PySem.W.isFn K (.ref g) = true
  ne : PySem.W.findIn K (.ref C) "__ne__" = some (some (.builtin "object.__ne__"))
  mo : PySem.W.mroIn K C (.type "object") = some true
section
variable {M : Model} {prog : Program} {w : World} {A : Around} {E : Value → Shared → Prop} {s : Shared} {K : PySem.W.Frag} {x C f L : Addr} {ox : Obj} {od : Option Obj} {h₀ : Heap} {m : Str → Option Value} {b tb : Value}
theorem ifBound_objNe {args : List Value} {Q : Option Value → Shared → Prop} (X : K.In s.heap) (I : PySem.W.InstAt s.heap x ox C od) (hs : PySem.W.findIn K (.ref C) "__ne__" = some (some (.builtin "object.__ne__")))
    (h : wpAny M A (call (.builtin "object.__ne__") (.ref x :: args)) (fun v => Q (some v)) E s) : wpAny M A (callSpecialIfBound? (.ref x) "__ne__" args) Q E s := by
  simp only [callSpecialIfBound?, bindSpecialIfBound?]
  refine wpAny_holding (wpAny_bind (wpAny_bind (wpAny_bind (I.type.here ((PySem.W.looks_findIn X hs).here ?_)))))
  refine wpAny_bind (wpAny_askSetting (wpAny_ite ?_))
  have fin : wpAny M A (call (.builtin "object.__ne__") ([.ref x] ++ args) >>= fun v => pure (some v)) Q E s := wpAny_bind (wpAny_mono h (fun v s' h' => wpAny_pure h') fun _ _ h' => h')
  split
  · exact wpAny_bind (wpAny_of_eq (F.cmp_object.ne.bind _) (wpAny_pure (by exact fin)))
  · exact wpAny_tryCatch (wpAny_bind (wpAny_of_eq (F.cmp_object.ne.bind _) (wpAny_pure (by exact fin))))
theorem objNe_entry (hu : A.units < cLine) (X : K.In s.heap) (I : PySem.W.InstAt s.heap x ox C od) (O : OwnQ K C f) {Q : Fin → Shared → Prop}
    (hcall : wpAny (model prog w) A (call (.ref f) [.ref x, b]) (fun v s' => ∃ r, v = .bool r ∧ Q (.done (.ret (.bool (!r)))) s') E s) :
    wpAny (model prog w) A (Builtin.«object.__ne__» ⟨[.ref x, b], []⟩) Q E s := by
  unfold Builtin.«object.__ne__»
  repeat (first
    | with_reducible refine wpAny_cRoomFor hu ?_
    | (refine wpAny_bind (m := callSpecialIfBound? (.ref x) (Str.ofString "__eq__") [b])
        (PySem.W.ifBound_K X I O.eq O.fn (wpAny_mono hcall (fun v s' hr => by
          obtain ⟨r, rfl, hq⟩ := hr
          repeat (first | exact hq | exact wpAny_pure hq | exact wpAny_truthy_bool hq | (refine wpAny_bind (m := truthy (.bool _)) (wpAny_truthy_bool ?_)) | wp_step)) fun _ _ e => e)))
    | wp_step)
theorem tryCompare_neO (hu : A.units + 1 < cLine) (X : K.In s.heap) (I : PySem.W.InstAt s.heap x ox C od) (O : OwnQ K C f) {Q : Option Value → Shared → Prop}
    (hcall : wpAny (model prog w) A.in1 (call (.ref f) [.ref x, b]) (fun v s' => ∃ r, v = .bool r ∧ Q (some (.bool (!r))) s') E s) : wpAny (model prog w) A (tryCompare (.ref x) "__ne__" b) Q E s := by
  simp only [tryCompare]
  refine wpAny_bind (ifBound_objNe X I O.ne (wpAny_call (codeAny_call_builtin F.cmp_object.ne.plain F.cmpEntry_ne
    (PySem.W.check_slot F.cmpKind_ne F.cmpSplit_ne (I.type.andThen (PySem.W.looks_mroIn X O.mo)) (F.cmpArgs_ne _ _)
      (objNe_entry (A := A.in1) hu X I O (wpAny_mono hcall (fun v s' hv => ?_) fun _ _ e => e))))))
  obtain ⟨r, rfl, hq⟩ := hv
  first | exact ⟨r, rfl, wpAny_pure hq⟩ | exact ⟨r, rfl, wpAny_pure (wpAny_pure hq)⟩ | exact ⟨r, rfl, hq⟩
theorem rc_neO (hu : A.units + 1 < cLine) (X : K.In s.heap) (I : PySem.W.InstAt s.heap x ox C od) (O : OwnQ K C f) (hb : PySem.W.Looks (model prog w) s.heap (typeOf b) tb) (hn : PySem.W.notFirst K C tb = true) {Q : Value → Shared → Prop}
    (hcall : wpAny (model prog w) A.in1 (call (.ref f) [.ref x, b]) (fun v s' => ∃ r, v = .bool r ∧ Q (.bool (!r)) s') E s) : wpAny (model prog w) A (richCompare .NotEq (.ref x) b) Q E s := by
  have one : wpAny (model prog w) A (tryCompare (.ref x) "__ne__" b) (fun r s' => ∃ v, r = some v ∧ Q v s') E s := tryCompare_neO hu X I O (wpAny_mono hcall (fun v s' hv => by
    obtain ⟨r, rfl, hq⟩ := hv
    exact ⟨r, rfl, _, rfl, hq⟩) fun _ _ e => e)
  unfold richCompare
  simp only [oneThing_ref]
  refine wpAny_holding (wpAny_bind (wpAny_cRoomFor (Nat.lt_of_succ_lt hu) ?_))
  refine wpAny_bind (I.type.here (wpAny_bind (hb.here ?_)))
  split
  · rename_i q
    have e : PySem.W.subIn K tb (.ref C) = some false := by
      rcases Bool.or_eq_true_iff.mp hn with e | e
      · rw [beq_iff_eq.mp e] at q; simp at q
      · exact beq_iff_eq.mp e
    refine wpAny_bind ((PySem.W.looks_subIn X e).here ?_)
    simp only [Bool.false_eq_true, if_false]
    refine wpAny_bind (wpAny_mono one (fun r s' z => ?_) fun _ _ e => e)
    obtain ⟨v, rfl, hq⟩ := z
    exact wpAny_pure hq
  · refine wpAny_bind (wpAny_pure ?_)
    simp only [Bool.false_eq_true, if_false]
    refine wpAny_bind (wpAny_mono one (fun r s' z => ?_) fun _ _ e => e)
    obtain ⟨v, rfl, hq⟩ := z
    exact wpAny_pure hq
end
theorem notFirst_ty {K : PySem.W.Frag} {C : Addr} {T : String} {ns : List String} (e : fastBuiltinMro T = some (ns.map Value.type)) : PySem.W.notFirst K C (.type T) = true := by
  have : PySem.W.subIn K (.type T) (.ref C) = some false := by
    show (fastBuiltinMro T).map (·.contains (.ref C)) = some false
    rw [e]
    simp
  unfold PySem.W.notFirst
  rw [this]
  simp
theorem notFirst_self {K : PySem.W.Frag} {C : Addr} : PySem.W.notFirst K C (.ref C) = true := by simp [PySem.W.notFirst]
theorem nf_none {K : PySem.W.Frag} {C : Addr} : PySem.W.notFirst K C (.type "NoneType") = true := notFirst_ty (ns := ["NoneType", "object"]) (by decide +kernel)
theorem nf_bool {K : PySem.W.Frag} {C : Addr} : PySem.W.notFirst K C (.type "bool") = true := notFirst_ty (ns := ["bool", "int", "object"]) (by decide +kernel)
theorem nf_int {K : PySem.W.Frag} {C : Addr} : PySem.W.notFirst K C (.type "int") = true := notFirst_ty (ns := ["int", "object"]) (by decide +kernel)
theorem nf_str {K : PySem.W.Frag} {C : Addr} : PySem.W.notFirst K C (.type "str") = true := notFirst_ty (ns := ["str", "object"]) (by decide +kernel)
theorem nf_list {K : PySem.W.Frag} {C : Addr} : PySem.W.notFirst K C (.type "list") = true := notFirst_ty (ns := ["list", "object"]) (by decide +kernel)
theorem nf_tuple {K : PySem.W.Frag} {C : Addr} : PySem.W.notFirst K C (.type "tuple") = true := notFirst_ty (ns := ["tuple", "object"]) (by decide +kernel)
section
variable {X : Cx} {CX : CXT} {pins : List (Addr × Obj)} {σ : L2.St} {H : Hp} {s : Shared} {C g : Addr} {n : Nat} {sp : Sp} {E : XK} {x : V} {u t : Value}
theorem ty_looks {M : Model} (I : Inv X pins σ H s) (rx : RelV x u) (ty : TyX X.K H x t) : PySem.W.Looks M s.heap (typeOf u) t := by
  obtain ⟨P, Z, hp, _⟩ := kit_of I rx ty
  exact Z.ty _ _ I.kIn hp
theorem ins_at {a dx : Addr} {fs : List (Str × V)} (I : Inv X pins σ H s) (h : H a = some (.ins C dx fs)) : ∃ ox od, PySem.W.InstAt s.heap a ox C od := by
  obtain ⟨mA, J, _⟩ := ins_get I.hok h
  obtain ⟨od, J, _⟩ := J.look
  exact ⟨_, _, J⟩
/-- x == y, x an instance of the class at C with its own __eq__ -/
def rEqO (K : PySem.W.Frag) (C : Addr) (sp : Sp) (E : XK) : R2 := fun x y H Q => ∃ a dx fs tb, x = .ref a ∧ H a = some (.ins C dx fs) ∧ TyX K H y tb ∧ PySem.W.notFirst K C tb = true ∧ sp [x, y] H Q E
theorem op_eqO (O : OwnQ X.K C g) (F : FnR X.prog X.w X.K X.mg X.base CX n g sp) (hr : Room n X.A) (hx : Passes CX X E) : OpR X (compareOp .Eq) (rEqO X.K C sp E) := by
  intro pins s σ H x y v u Q I rx ry h
  obtain ⟨a, dx, fs, tb, rfl, ha, ty, hn, q⟩ := h
  cases (show v = Value.ref a from rx)
  obtain ⟨ox, od, J⟩ := ins_at I ha
  obtain ⟨m, hF⟩ := I.fr
  show wpAny (model X.prog X.w) X.A (richCompare .Eq (.ref a) u) (EP X pins σ Q) X.xe s
  refine PySem.W.cmp_K (op := .Eq) (tb := tb) hr.units0 hF I.ok.mod.kin J (ty_looks I ry ty) hn O.eq O.fn ?_
  refine wpAny_mono (wpAny_call (run_fnR (us := [.ref a, u]) (vs := [.ref a, y]) F hr hx I (.cons rfl (.cons ry .nil)) q)) (fun w s' z => ?_) fun _ _ x => x
  obtain ⟨z', H', I', rz, qz⟩ := z
  exact SlX.cmpback rz ⟨z', H', I', rz, qz⟩
/-- x != y -/
def rNeO (K : PySem.W.Frag) (C : Addr) (sp : Sp) (E : XK) : R2 := fun x y H Q => ∃ a dx fs tb, x = .ref a ∧ H a = some (.ins C dx fs) ∧ TyX K H y tb ∧ PySem.W.notFirst K C tb = true ∧ sp [x, y] H (fun z H' => ∃ r, z = .bl r ∧ Q (.bl (!r)) H') E
theorem op_neO (O : OwnQ X.K C g) (F : FnR X.prog X.w X.K X.mg X.base CX n g sp) (hr : Room (n + 1) X.A) (hx : Passes CX X E) : OpR X (compareOp .NotEq) (rNeO X.K C sp E) := by
  intro pins s σ H x y v u Q I rx ry h
  obtain ⟨a, dx, fs, tb, rfl, ha, ty, hn, q⟩ := h
  cases (show v = Value.ref a from rx)
  obtain ⟨ox, od, J⟩ := ins_at I ha
  show wpAny (model X.prog X.w) X.A (richCompare .NotEq (.ref a) u) (EP X pins σ Q) X.xe s
  have hr1 : Room n X.A.in1 := Room.in1 hr
  refine rc_neO (C := C) (f := g) (tb := tb) (by have := hr.un; omega) I.kIn J O (ty_looks I ry ty) hn ?_
  refine wpAny_mono (wpAny_call (SlX.run_at (us := [.ref a, u]) (ws := [.ref a, y]) F hr1 I.env0.in1 hx I (.cons rfl (.cons ry .nil)) q)) (fun w s' z => ?_) fun _ _ x => x
  obtain ⟨z', H', I', rz, r, ez, qz⟩ := z
  subst ez
  cases (show w = Value.bool r from rz)
  exact ⟨r, rfl, .bl (!r), H', I', rfl, qz⟩
end
end Rs
/-! A built-in value == an instance with an own __eq__; such an instance in a tuple. -/
namespace Rs
open PySem PySem.Spec PyProof.Rows PySem.SeqAt L2 SeqRoads2 MeetsSeq MeetsSeq2 MeetsSeq3
open AutoSeq1 (wpAny_loadPart')
section
variable {prog : Program} {w : World} {A : Around} {E : Value → Shared → Prop} {s : Shared} {K : PySem.W.Frag} {x C f : Addr} {ox : Obj} {od : Option Obj}
theorem rc_eqR {T id : String} {u : Value} {Q : Value → Shared → Prop} (hu : A.units < cLine) (X : K.In s.heap) (I : PySem.W.InstAt s.heap x ox C od) (O : OwnQ K C f) (hT : s.TypeIs u T) (S : Slot T "__eq__" id)
    (hm : PySem.W.mroIn K C (.type T) = some false) (decl : wpAny (model prog w) A (call (.builtin id) [u, .ref x]) (fun v s' => v = .notImplemented ∧ s' = s) E s)
    (h : wpAny (model prog w) A (call (.ref f) [.ref x, u]) (PySem.W.CmpBack Q) E s) : wpAny (model prog w) A (richCompare .Eq u (.ref x)) Q E s := by
  have one : wpAny (model prog w) A (tryCompare u "__eq__" (.ref x)) (fun r s' => r = none ∧ s' = s) E s :=
    wpAny_tryCompare_declines hT S (wpAny_mono decl (fun v s' z => ⟨z.1, rfl, z.2⟩) fun _ _ e => e)
  have two : wpAny (model prog w) A (tryCompare (.ref x) "__eq__" u) (fun r s' => ∃ v, r = some v ∧ Q v s') E s := by
    unfold tryCompare
    refine wpAny_bind (PySem.W.ifBound_K X I O.eq O.fn (wpAny_mono h (fun v s' hv => ?_) fun _ _ e => e))
    cases v <;> first | exact hv.elim | exact wpAny_pure ⟨_, rfl, hv⟩
  simp only [richCompare, cmpInfo_Eq, hT.oneThing_none]
  refine wpAny_holding (wpAny_bind (wpAny_cRoomFor hu ?_))
  refine wpAny_bind (wpAny_typeOf hT ?_)
  refine wpAny_bind (I.type.here ?_)
  split
  · refine wpAny_bind ((PySem.W.looks_subIn X (t := .ref C) (base := .type T) hm).here ?_)
    simp only [Bool.false_eq_true, if_false, Bool.not_false, if_true]
    refine wpAny_bind (m := tryCompare u _ (.ref x)) (wpAny_mono one (fun r s1 z => ?_) fun _ _ e => e)
    obtain ⟨z1, z2⟩ := z
    subst z1
    subst z2
    refine wpAny_bind (m := tryCompare (.ref x) _ u) (wpAny_mono two (fun r s2 z => ?_) fun _ _ e => e)
    obtain ⟨v, rfl, hq⟩ := z
    exact wpAny_pure hq
  · rename_i q
    exact absurd (by simp) q
theorem str_eq_ins (a : Str) (t : Tok) (x C dx : Addr) : Meets (Builtin.«str.__eq__» ⟨[.str a t, .ref x], []⟩) (fun _ R s => s.heap.get? x = some (PySem.W.instObj C dx) ∧ R (.ok (.ret .notImplemented)) s) :=
  .of_wp fun prog w A R s h => by
    obtain ⟨hp, g, d, tk, os⟩ := s; obtain ⟨hl, h⟩ := h
    unfold PySem.W.instObj at hl
    wp_walk using wpAny_loadPart' hl
    exact ⟨_, rfl, h⟩
theorem wpAny_sub' {M : Model} {A : Around} {E : Value → Shared → Prop} {h : Heap} {g : Array GenState} {d : Drawn} {t : Nat} {os : OsState} {a b : Value} {r : Bool} {Q : Bool → Shared → Prop}
    (x : PySem.W.Looks M h (isSubtype a b) r) (hq : Q r ⟨h, g, d, t, os⟩) : wpAny M A (isSubtype a b) Q E ⟨h, g, d, t, os⟩ := PySem.W.Looks.here (s := ⟨h, g, d, t, os⟩) x hq
theorem tuple_eq_ins (l x C dx : Addr) (hm : PySem.W.mroIn K C (.type "tuple") = some false) :
    Meets (Builtin.«tuple.__eq__» ⟨[.ref l, .ref x], []⟩) (fun _ R s => K.In s.heap ∧ s.heap.get? x = some (PySem.W.instObj C dx) ∧ R (.ok (.ret .notImplemented)) s) :=
  .of_wp fun prog w A R s h => by
    obtain ⟨hp, g, d, tk, os⟩ := s; obtain ⟨X, hl, h⟩ := h
    unfold PySem.W.instObj at hl
    have L : PySem.W.Looks (model prog w) hp (isSubtype (.ref C) (.type "tuple")) false := PySem.W.looks_subIn X hm
    wp_walk using wpAny_loadPart' hl, wpAny_sub' L
    exact ⟨_, rfl, h⟩
theorem list_eq_ins (l x C dx : Addr) (hm : PySem.W.mroIn K C (.type "list") = some false) :
    Meets (Builtin.«list.__eq__» ⟨[.ref l, .ref x], []⟩) (fun _ R s => K.In s.heap ∧ s.heap.get? x = some (PySem.W.instObj C dx) ∧ R (.ok (.ret .notImplemented)) s) :=
  .of_wp fun prog w A R s h => by
    obtain ⟨hp, g, d, tk, os⟩ := s; obtain ⟨X, hl, h⟩ := h
    unfold PySem.W.instObj at hl
    have L : PySem.W.Looks (model prog w) hp (isSubtype (.ref C) (.type "list")) false := PySem.W.looks_subIn X hm
    wp_walk using wpAny_loadPart' hl, wpAny_sub' L
    exact ⟨_, rfl, h⟩
theorem int_eq_ins (i : Int) (t : Tok) (x C dx : Addr) : Meets (Builtin.«int.__eq__» ⟨[.int i t, .ref x], []⟩) (fun _ R s => s.heap.get? x = some (PySem.W.instObj C dx) ∧ R (.ok (.ret .notImplemented)) s) :=
  .of_wp fun prog w A R s h => by
    obtain ⟨hp, g, d, tk, os⟩ := s; obtain ⟨hl, h⟩ := h
    unfold PySem.W.instObj at hl
    wp_walk using wpAny_loadPart' hl
    exact ⟨_, rfl, h⟩
/-- u in a builtin's loop against an instance -/
theorem eqBool_ins {u : Value} {Q : Bool → Shared → Prop} (hne : (u == Value.ref x) = false) (h : wpAny (model prog w) A (richCompare .Eq u (.ref x)) (fun v s' => ∃ r, v = .bool r ∧ Q r s') E s) : wpAny (model prog w) A (eqBool u (.ref x)) Q E s := by
  unfold eqBool
  refine wpAny_holding ?_
  refine wpAny_ite_split (fun hab => by rw [hne] at hab; cases hab) (fun _ => ?_)
  cases u <;> (
    refine wpAny_bind (wpAny_mono h (fun v s' hv => ?_) fun _ _ x => x)
    obtain ⟨r, rfl, q⟩ := hv
    exact wpAny_truthy_bool q)
theorem tuple_inG {R : Result → Shared → Prop} (l : Addr) (items : Array Value) (n : Nat) (dd : Option Addr) (sl : Array (Option Value)) (y : Value) (I : Shared → Prop)
    (turn : ∀ z, z ∈ items → ∀ s, I s → wpAny (model prog w) A.in1 (eqBool z y) (fun r s' => r = false ∧ I s') (fun e s' => R (.error e) s') s)
    (fin : ∀ s, I s → R (.ok (.ret (.bool false))) s) (hl : s.heap.get? l = some { cls := .type "tuple", dict := dd, data := .seq items n, slots := sl }) (h : I s) :
    wpAny (model prog w) A.in1 (Builtin.«tuple.__contains__» ⟨[.ref l, y], []⟩) (GQ.FinOf prog w A R) (fun e s' => R (.error e) s') s := by
  obtain ⟨hp, g, d, tk, os⟩ := s
  wp_walk using wpAny_loadPart' hl, wpAny_forIn_array _ (fun rest b s' => b.1 = none ∧ I s' ∧ (∀ z, z ∈ rest → z ∈ items)) _

  case turn =>
    rintro z rest b s' ⟨hb, hI, hmem⟩
    refine wpAny_bind (wpAny_mono (turn z (hmem z (List.mem_cons_self ..)) s' hI) (fun r s2 q => ?_) fun _ _ x => x)
    obtain ⟨rfl, q2⟩ := q
    wp_walk
    exact ⟨rfl, q2, fun z hz => hmem z (List.mem_cons_of_mem _ hz)⟩
  case fin =>
    rintro ⟨b1, b2⟩ s' ⟨hb, hI, hmem⟩
    simp only at hb
    subst hb
    have hR := fin s' hI
    wp_walk
    exact hR
  case h =>
    exact ⟨rfl, h, fun z hz => by simpa using hz⟩
theorem in_tupG {l : Addr} {items : Array Value} {y : Value} {Q : Value → Shared → Prop} (I : Shared → Prop) (hl : s.heap.IsTuple l items)
    (turn : ∀ z, z ∈ items → ∀ s, I s → wpAny (model prog w) A.in1 (eqBool z y) (fun r s' => r = false ∧ I s') E s) (fin : ∀ s, I s → Q (.bool false) s) (h : I s) :
    wpAny (model prog w) A (compareOp .In y (.ref l)) Q E s := by
  obtain ⟨⟨cls, dd, data, sl⟩, ho, hc, n, hd⟩ := id hl
  simp only at hc hd
  subst hc hd
  show wpAny _ A (do return .bool (← contains (.ref l) y)) Q E s
  refine wpAny_bind (wpAny_contains_slot ⟨_, ho, rfl⟩ F.slot_tuple_contains (wpAny_mono (GQ.call_here F.slot_tuple_contains ⟨_, ho, rfl⟩ F.entry_tuple_contains (F.args_tuple_contains_2 _ _)
    (tuple_inG (R := wants (fun v s' => ∃ b, v = .bool b ∧ Q (.bool b) s') E) l items n dd sl y I turn (fun s' q => ⟨_, rfl, fin s' q⟩) ho h)) (fun v s' hv => ?_) fun _ _ e => e))
  obtain ⟨b, rfl, hq⟩ := hv
  exact wpAny_truthy_bool (wpAny_pure hq)
end
/-- the class at C is no subclass of these -/
structure OwnN (K : PySem.W.Frag) (C : Addr) : Prop where
  no : PySem.W.mroIn K C (.type "NoneType") = some false
  st : PySem.W.mroIn K C (.type "str") = some false
  tu : PySem.W.mroIn K C (.type "tuple") = some false
  li : PySem.W.mroIn K C (.type "list") = some false
  it : PySem.W.mroIn K C (.type "int") = some false
theorem Vals.of_mem : ∀ {xs : List V} {us : List Value}, Vals xs us → ∀ {u : Value}, u ∈ us → ∃ x, x ∈ xs ∧ RelV x u
  | _, _, .nil, _, h => by cases h
  | _, _, .cons r t, u, h => by
    rcases List.mem_cons.mp h with e | h
    · subst e
      exact ⟨_, List.mem_cons_self, r⟩
    · obtain ⟨x, hx, k⟩ := Vals.of_mem t h
      exact ⟨x, List.mem_cons_of_mem _ hx, k⟩
section
variable {X : Cx} {CX : CXT} {pins : List (Addr × Obj)} {σ : L2.St} {H : Hp} {s : Shared} {C g : Addr} {n : Nat} {sp : Sp} {E : XK}
theorem ins_obj {a dx : Addr} {fs : List (Str × V)} (I : Inv X pins σ H s) (h : H a = some (.ins C dx fs)) : ∃ od, PySem.W.InstAt s.heap a (PySem.W.instObj C dx) C od := by
  obtain ⟨mA, J, _⟩ := ins_get I.hok h
  obtain ⟨od, J, _⟩ := J.look
  exact ⟨_, J⟩
/-- kinds of values that an instance is compared with from the left -/
def OthV (K : PySem.W.Frag) (H : Hp) (z : V) : Prop := z = .non ∨ (∃ i, z = .str i) ∨ (∃ i, z = .int i) ∨ ∃ p ys, z = .ref p ∧ SqT K H p ys
def falseO (sp : Sp) (E : XK) (a : Addr) (z : V) (H : Hp) : Prop := sp [.ref a, z] H (fun v H' => v = .bl false ∧ H' = H) E
theorem rc_oth {A : Around} {a dx : Addr} {fs : List (Str × V)} {z : V} {u : Value} (O : OwnQ X.K C g) (N : OwnN X.K C) (FG : FnR X.prog X.w X.K X.mg X.base CX n g sp) (hr : Room n A) (e0 : Env0 X.prog X.w X.K X.mg X.base A X.stack s H) (hx : Passes CX X E)
    (I : Inv X pins σ H s) (ha : H a = some (.ins C dx fs)) (rz : RelV z u) (oz : OthV X.K H z) (q : falseO sp E a z H) :
    wpAny (model X.prog X.w) A (eqBool u (.ref a)) (fun r s' => r = false ∧ Inv X pins σ H s') X.xe s := by
  obtain ⟨od, J⟩ := ins_obj I ha
  have run : wpAny (model X.prog X.w) A (call (.ref g) [.ref a, u]) (PySem.W.CmpBack (fun v s' => ∃ r, v = .bool r ∧ r = false ∧ Inv X pins σ H s')) X.xe s := by
    refine wpAny_mono (wpAny_call (SlX.run_at (us := [.ref a, u]) (ws := [.ref a, z]) FG hr e0 hx I (.cons rfl (.cons rz .nil)) q)) (fun w s' y => ?_) fun _ _ x => x
    obtain ⟨z', H', I', ry, e1, e2⟩ := y
    subst e1
    subst e2
    cases (show w = Value.bool false from ry)
    exact ⟨false, rfl, rfl, I'⟩
  rcases oz with rfl | ⟨i, rfl⟩ | ⟨i, rfl⟩ | ⟨p, ys, rfl, hp⟩
  · cases (show u = Value.none from rz)
    exact eqBool_ins rfl (rc_eqR hr.units0 I.kIn J O (show s.TypeIs .none "NoneType" from rfl) F.slot_NoneType_eq N.no (call_gives F.slot_NoneType_eq rfl F.entry_NoneType_eq (F.args_NoneType_eq_2 _ _) (NoneType___eq___none_ref_0 a) ⟨rfl, rfl⟩) run)
  · obtain ⟨t, rfl⟩ := (show ∃ t, u = Value.str i t from rz)
    exact eqBool_ins rfl (rc_eqR hr.units0 I.kIn J O (show s.TypeIs (.str i t) "str" from rfl) F.slot_str_eq N.st (call_meets F.slot_str_eq rfl F.entry_str_eq (F.args_str_eq_2 _ _) (str_eq_ins i t a C dx) ⟨J.at_, rfl, rfl⟩) run)
  · obtain ⟨t, rfl⟩ := (show ∃ t, u = Value.int i t from rz)
    exact eqBool_ins rfl (rc_eqR hr.units0 I.kIn J O (show s.TypeIs (.int i t) "int" from rfl) F.slot_int_eq N.it (call_meets F.slot_int_eq rfl F.entry_int_eq (F.args_int_eq_2 _ _) (int_eq_ins i t a C dx) ⟨J.at_, rfl, rfl⟩) run)
  · cases (show u = Value.ref p from rz)
    obtain ⟨its, rv, ⟨o, ho, hc, _⟩, _⟩ := I.tuple hp
    have hne : (Value.ref p == Value.ref a) = false := by
      have : p ≠ a := by
        rintro rfl
        have e := J.at_
        rw [ho] at e
        cases e
        cases hc
      simp [this]
    exact eqBool_ins hne (rc_eqR hr.units0 I.kIn J O (show s.TypeIs (.ref p) "tuple" from ⟨_, ho, hc⟩) F.slot_tuple_eq N.tu (call_meets F.slot_tuple_eq ⟨_, ho, hc⟩ F.entry_tuple_eq (F.args_tuple_eq_2 _ _) (tuple_eq_ins p a C dx N.tu) ⟨I.kIn, J.at_, rfl, rfl⟩) run)
/-- x in a tuple of other things -/
def rInO (K : PySem.W.Frag) (C : Addr) (sp : Sp) (E : XK) : R2 := fun x y H Q => ∃ a dx fs t xs, x = .ref a ∧ H a = some (.ins C dx fs) ∧ y = .ref t ∧ SqT K H t xs ∧ (∀ z ∈ xs, OthV K H z ∧ falseO sp E a z H) ∧ Q (.bl false) H
theorem op_inO (O : OwnQ X.K C g) (N : OwnN X.K C) (F : FnR X.prog X.w X.K X.mg X.base CX n g sp) (hr : Room (n + 2) X.A) (hx : Passes CX X E) : OpR X (compareOp .In) (rInO X.K C sp E) := by
  intro pins s σ H x y v u Q I rx ry h
  obtain ⟨a, dx, fs, t, xs, rfl, ha, rfl, ht, hz, q⟩ := h
  cases (show v = Value.ref a from rx)
  cases (show u = Value.ref t from ry)
  obtain ⟨its, rv, e, _⟩ := I.tuple ht
  have hr1 : Room n X.A.in1 := Room.in1 (hr.mono (by omega))
  refine in_tupG (fun s' => Inv X pins σ H s') e (fun z hm s' I' => ?_) (fun s' I' => ⟨.bl false, H, I', rfl, q⟩) I
  obtain ⟨zz, hzz, rz⟩ := Vals.of_mem rv (by simpa using hm)
  exact rc_oth O N F hr1 I'.env0.in1 hx I' ha rz (hz zz hzz).1 (hz zz hzz).2
end
end Rs
/-! What a class with its own __eq__ is to isinstance; any value in a tuple of texts. -/
namespace Rs
open PySem PySem.Spec PyProof.Rows L2
theorem fnR {P : Program} {w : World} {K : PySem.W.Frag} {mg : Str → Option Value} {base : Heap} {CX : CXT} {k : Nat} {f : Addr} {fd : FuncData} {ps : List Str} {sp : Sp} (F : FnOk P w K mg base CX k f fd ps sp) (hb : Binds K fd ps []) : FnR P w K mg base CX k f sp :=
  (F.raw hb .nil).imp fun vs H Q E h => by
    show sp (vs ++ []) H Q E
    rw [List.append_nil]
    exact h
structure OwnI (K : PySem.W.Frag) (C : Addr) : Prop where
  cl : (PySem.W.clsIn K C).isSome = true
  tp : PySem.W.typeIn K (.ref C) = some (.type "type")
  ca : PySem.W.findIn K (.ref C) "__class__" = some (some (.builtin "object.__class__"))
  sp : PySem.W.specialIn K (.builtin "object.__class__") "__get__" = some (some (.builtin "getset_descriptor.__get__"))
  tk : PySem.W.takesIn K (.builtin "object.__class__") = some true
  mo : PySem.W.mroIn K C (.type "object") = some true
theorem OwnI.ty {K : PySem.W.Frag} {C a dx : Addr} {fs : List (Str × V)} {H : Hp} (h : OwnI K C) (c : Cls K C) (e : H a = some (.ins C dx fs)) : TyX K H (.ref a) (.ref C) := .base (.ins e c h.ca h.sp h.tk h.mo)
theorem kit_self {K : PySem.W.Frag} {C : Addr} : PySem.W.kitOne K (.ref C) (.ref C) = some true := by simp [PySem.W.kitOne]
theorem OwnI.no {K : PySem.W.Frag} {C : Addr} {T : String} {ns : List String} (h : OwnI K C) (e : fastBuiltinMro T = some (ns.map Value.type)) : PySem.W.kitOne K (.type T) (.ref C) = some false := by
  have h1 : PySem.W.subIn K (.type T) (.ref C) = some false := by
    show (fastBuiltinMro T).map (·.contains (.ref C)) = some false
    rw [e]
    simp
  unfold PySem.W.kitOne PySem.W.kitCls
  simp [h.cl, h.tp, h1]
/-- the built-in kinds that stand beside own instances -/
inductive BT : String → Prop
  | non : BT "NoneType"
  | bl : BT "bool"
  | int : BT "int"
  | str : BT "str"
  | lst : BT "list"
  | tup : BT "tuple"
theorem BT.nf {K : PySem.W.Frag} {C : Addr} {T : String} (h : BT T) : PySem.W.notFirst K C (.type T) = true := by
  cases h
  · exact nf_none
  · exact nf_bool
  · exact nf_int
  · exact nf_str
  · exact nf_list
  · exact nf_tuple
theorem OwnI.bt {K : PySem.W.Frag} {C : Addr} {T : String} (h : OwnI K C) (b : BT T) : PySem.W.kitOne K (.type T) (.ref C) = some false := by
  cases b
  · exact h.no (ns := ["NoneType", "object"]) (by decide +kernel)
  · exact h.no (ns := ["bool", "int", "object"]) (by decide +kernel)
  · exact h.no (ns := ["int", "object"]) (by decide +kernel)
  · exact h.no (ns := ["str", "object"]) (by decide +kernel)
  · exact h.no (ns := ["list", "object"]) (by decide +kernel)
  · exact h.no (ns := ["tuple", "object"]) (by decide +kernel)
theorem Sh.bt {K : PySem.W.Frag} {b : Addr} {H : Hp} {v : V} (h : Sh b H v) : ∃ T, TyX K H v (.type T) ∧ BT T := by
  cases v with
  | non => exact ⟨_, .base .non, .non⟩
  | bl x => exact ⟨_, .base (.bl x), .bl⟩
  | int x => exact ⟨_, .base (.int x), .int⟩
  | str x => exact ⟨_, .base (.str x), .str⟩
  | ref a =>
    obtain ⟨ne, ⟨xs, e⟩ | ⟨xs, e⟩⟩ := h
    · exact ⟨_, .base (.lst e), .lst⟩
    · exact ⟨_, .base (.tup e), .tup⟩
  | byt _ => exact h.elim
  | flt _ => exact h.elim
  | ty _ => exact h.elim
/-- whether a value is one of some texts -/
def isOne (ys : List Str) : V → Bool
  | .str x => ys.any (· == x)
  | _ => false
def eqText (v : V) : Value → Bool
  | .str c _ => (match v with
    | .str x => c == x
    | _ => false)
  | _ => false
theorem any_text {v : V} : ∀ {ys : List Str} {us : List Value}, Vals (ys.map V.str) us → us.any (eqText v) = isOne ys v
  | [], _, .nil => by cases v <;> rfl
  | y :: ys, _, .cons r t => by
    obtain ⟨k, rfl⟩ := r
    have ih := any_text (v := v) t
    rw [List.any_cons, ih]
    cases v <;> simp [eqText, isOne]
section
variable {X : Cx} {pins : List (Addr × Obj)} {σ : L2.St} {H : Hp} {s : Shared}
theorem text_eqAt {A : Around} {b : Addr} {v : V} {u : Value} (hu : A.units < cLine) (I : Inv X pins σ H s) (h : Sh b H v) (rv : RelV v u) (y : Str) (t : Tok) : SeqAt.EqAt A s (.str y t) u (eqText v (.str y t)) := by
  cases v with
  | non => cases (show u = Value.none from rv); exact SeqAt.EqAt.str_none y t
  | bl x => cases (show u = Value.bool x from rv); exact SeqAt.EqAt.str_bool y t x
  | int i => obtain ⟨k, rfl⟩ := (show ∃ k, u = Value.int i k from rv); exact SeqAt.EqAt.str_int y t i k
  | str x => obtain ⟨k, rfl⟩ := (show ∃ k, u = Value.str x k from rv); exact SeqAt.EqAt.str_str y t x k
  | ref a =>
    cases (show u = Value.ref a from rv)
    obtain ⟨ne, ⟨xs, e⟩ | ⟨xs, e⟩⟩ := h
    · obtain ⟨its, r, pl, _⟩ := I.list (SqL.of e)
      exact SeqAt.EqAt.str_list y t pl.isList hu
    · obtain ⟨its, r, pl, _⟩ := I.tuple (SqT.of e)
      exact SeqAt.EqAt.str_tuple y t pl hu
  | byt _ => exact h.elim
  | flt _ => exact h.elim
  | ty _ => exact h.elim
/-- x (not) in a tuple of texts -/
def rInSh (K : PySem.W.Frag) (neg : Bool) : R2 := fun x y H Q => ∃ b p ys, y = .ref p ∧ SqT K H p (ys.map V.str) ∧ Sh b H x ∧ Q (.bl (if neg then !isOne ys x else isOne ys x)) H
theorem mem_text {b : Addr} {A : Around} {v : V} {u : Value} (hu : A.units < cLine) (I : Inv X pins σ H s) (h : Sh b H v) (rv : RelV v u) : ∀ {ys : List Str} {us : List Value}, Vals (ys.map V.str) us → ∀ z ∈ us, SeqAt.EqAt A s z u (eqText v z)
  | [], _, .nil, _, hz => by cases hz
  | y :: ys, _, .cons r t, z, hz => by
    obtain ⟨k, rfl⟩ := r
    rcases List.mem_cons.mp hz with e | hz
    · subst e
      exact text_eqAt hu I h rv y k
    · exact mem_text hu I h rv t z hz
theorem op_inSh (hu : X.A.units + 64 < cLine) : OpR X (compareOp .In) (rInSh X.K false) := by
  intro pins s σ H x y v u Q I rx ry h
  obtain ⟨b, p, ys, rfl, hq, hs, q⟩ := h
  cases ry
  obtain ⟨its, rv, pl, _⟩ := I.tuple hq
  have hu1 : X.A.in1.units < cLine := by show X.A.units + 1 < cLine; omega
  refine SeqAt.in_tupleAt (eqText x) pl (fun z hz => mem_text hu1 I hs rx rv z (by simpa using hz)) ⟨.bl _, H, I, rfl, ?_⟩
  rw [show its.toArray.any (eqText x) = its.any (eqText x) by simp, any_text rv]
  exact q
theorem op_notInSh (hu : X.A.units + 64 < cLine) : OpR X (compareOp .NotIn) (rInSh X.K true) := by
  intro pins s σ H x y v u Q I rx ry h
  obtain ⟨b, p, ys, rfl, hq, hs, q⟩ := h
  cases ry
  obtain ⟨its, rv, pl, _⟩ := I.tuple hq
  have hu1 : X.A.in1.units < cLine := by show X.A.units + 1 < cLine; omega
  refine SeqAt.notIn_tupleAt (eqText x) pl (fun z hz => mem_text hu1 I hs rx rv z (by simpa using hz)) ⟨.bl _, H, I, rfl, ?_⟩
  rw [show its.toArray.any (eqText x) = its.any (eqText x) by simp, any_text rv]
  exact q
end
end Rs
/-! A def's promise at one stand of the machine (what runs around it known), so that repr of lists and tuples can be told. -/
namespace Rs
open PySem PySem.Spec PyProof.Rows L2
/-- the promise of the def at f, called where A runs around -/
structure At (A : Around) (P : Program) (w : World) (K : PySem.W.Frag) (mg : Str → Option Value) (base : Heap) (CX : CXT) (k : Nat) (f : Addr) (ps : List Str) (fd : FuncData) (sp : Sp) : Prop where
  len : ∀ vs H Q E, sp vs H Q E → vs.length = ps.length
  go : ∀ (outer : List Env) (s : Shared) (H : Hp) (args : Args) (us : List Value) (vs : List V) (Q : VK) (E : XK), Room k A → Env0 P w K mg base A outer s H → BindsTo s fd args (ps.zip us) → Vals vs us → sp vs H Q E → codeAny (model P w) A (.call (.ref f) args) (CR CX outer P w H s Q E) s
section
variable {P : Program} {w : World} {K : PySem.W.Frag} {mg : Str → Option Value} {base : Heap}
theorem fun_at {A : Around} {x qual : Str} {st : Stmt} {f : Addr} {fd : FuncData} {N ps : List Str} {k : Nat} {CX : CXT} {sp : Sp} (F : Fun K x qual st f fd) (S : FnScope N ps (defScope st)) (len : ∀ vs H Q E, sp vs H Q E → vs.length = ps.length)
    (body : ∀ (cdv : Value) (outer : List Env) (s : Shared) (H : Hp) (vs : List V) (Q : VK) (E : XK), Room k (A.deeper (envOfC qual (defScope st) s.heap.objs.size f cdv)) → sp vs H Q E →
      ∃ t, PSs (cxOf CX P w K mg base N qual (defScope st) f cdv A outer s H E) (defBody st) t ∧ t { nx := fun _ H' => Q .non H', rt := Q } (start N vs) H) : At A P w K mg base CX (k + 1) f ps fd sp := by
  obtain ⟨oc, od, kV, doc, pm, an, cdv, ct, osl, rfl, lk, code⟩ := F.ex
  refine ⟨len, fun outer s H args us vs Q E room st0 bind rel pre => ?_⟩
  have nargs := len vs H Q E pre
  have inK : K.In s.heap := st0.mod.kin.keeps fun b o hb => (st0.bs b o hb).1
  have free : s.heap.NoLimit := st0.mod.nolimit.keeps fun b o hb => (st0.bs b o hb).1
  refine codeAny_call_function room.depth (inK _ _ lk) rfl S.co S.gen rfl (PySem.W.codeRec_of inK code) (bind _ _ _ _ ?_)
  have kinds : ∀ y ∈ ps.zip us, (defScope st).names.lookup y.1 = some .local ∨ ((defScope st).names.lookup y.1 = some .cell ∧ ((cellsFrom (s.heap.objs.size + 1) (defScope st).names []).lookup y.1).isSome = true) := by
    rintro ⟨n, v⟩ mem
    exact (S.par n (List.of_mem_zip mem).1).elim .inl fun q => .inr ⟨q, PySem.W.cellsFrom_some _ _ _ (.inl q)⟩
  refine wpAny_newFunctionEnv_cells S.kind kinds fun env eq s1 x => ?_
  subst eq
  refine ⟨free.keeps x.toInCall.keep, codeAny_func ?_⟩
  obtain ⟨t, der, rd⟩ := body cdv outer s H vs Q E (room.deeper _) pre
  have inv0 := inv_start (CX := CX) (E := E) S room.hd st0 nargs rel x
  refine wpAny_mono (der.run [] s1 (start N vs) H _ inv0 rd) (fun way s' out => ?_) fun e s' out => out
  cases way with
  | brk => obtain ⟨_, _, _, no⟩ := out; exact no.elim
  | cont => obtain ⟨_, _, _, no⟩ := out; exact no.elim
  | ret u =>
    obtain ⟨v, σ', H', J, rv, q⟩ := out
    exact (⟨v, H', J.os, J.bare, J.base, J.hok, rv, q⟩ : CE outer P w H s Q u s')
  | next =>
    obtain ⟨σ', H', J, q⟩ := out
    exact (⟨V.non, H', J.os, J.bare, J.base, J.hok, rfl, q⟩ : CE outer P w H s Q Value.none s')
end
/-! f(e, ..), its promise told where the body of the caller stands -/
section
variable {X : Cx} {CX : CXT} {k : Nat} {f : Addr} {fd : FuncData} {ps : List Str} {sp : Sp} {E : XK}
theorem pe_callAt {x : Str} {p pos : Pos} {e : Expr} {es : List Expr} {t : TA} (F : At X.A X.prog X.w X.K X.mg X.base CX k f ps fd sp) (hr : Room k X.A) (hg : Gl X x) (hm : X.mg x = some (.ref f)) (hk : PySem.W.keepIn X.K (.ref f) = true) (hb : Binds X.K fd ps []) (hx : Passes CX X E)
    (ha : PA X (e :: es) t) (hdb : (x == ("__debug__" : Str)) = false := by decide) (he : starEach (e :: es) X.env = (false, eval e X.env) :: starEach es X.env := by rfl) (hpl : (backTo pos (starEach es X.env)).any (·.1) = false := by rfl) :
    PE X (.Call (.Name x p) (e :: es) [] pos) (tCall sp [] E t) := by
  refine ⟨fun pins s σ H Q I h => wpAny_Call_Name_kw (ld_glob I hg hm ?_ hdb)⟩
  refine PySem.W.callWith_K (h₀ := X.base) I.ok.mod.kin hk (thn (ha.run pos pins s σ H _ I h) fun us s1 res => ?_) he hpl
  obtain ⟨vs, H1, I1, rel, pre⟩ := res
  rw [List.append_nil] at pre
  have n1 := F.len _ _ _ _ pre
  have n2 : (us ++ []).length = ps.length := by rw [List.append_nil, ← rel.length]; exact n1
  have bd := hb s1 us I1.kIn n2
  rw [List.append_nil] at bd
  refine ⟨I1.kIn, wpAny_call (codeAny_mono (F.go X.stack s1 H1 ⟨us, []⟩ us vs Q E hr I1.env0 bd rel pre) fun r s' out => ?_)⟩
  cases r with
  | error e => exact hx pins σ H1 s1 e s' I1 out
  | ok fl =>
    cases fl with
    | ret u => exact I1.after out
    | next => exact out.elim
    | brk => exact out.elim
    | cont => exact out.elim
end
/-! ### the law's own call -/
/-- what is tracked at the law's call: the script alone, if the top does not hold it -/
def scriptH (K : PySem.W.Frag) (a : Addr) (vs : List Value) (ns : List Int) : Hp := fun b =>
  if b = a ∧ K.lookup a = none then some (.frz { cls := .type "list", data := .seq vs.toArray } (.lst (ns.map V.int))) else none
theorem scriptH_some {K : PySem.W.Frag} {a : Addr} {vs : List Value} {ns : List Int} {b : Addr} {u : HO} (h : scriptH K a vs ns b = some u) : b = a ∧ K.lookup a = none ∧ u = .frz { cls := .type "list", data := .seq vs.toArray } (.lst (ns.map V.int)) := by
  unfold scriptH at h
  by_cases c : b = a ∧ K.lookup a = none
  · rw [if_pos c] at h
    exact ⟨c.1, c.2, (Option.some.inj h).symm⟩
  · rw [if_neg c] at h
    cases h
theorem law_at {P : Program} {w : World} {K : PySem.W.Frag} {mg mb : Str → Option Value} {k : Nat} {fa a : Addr} {fd : FuncData} {x : Str} {sp : Sp} {s₁ : Shared} {vs : List Value} {ns : List Int}
    (inK : K.In s₁.heap) (glb : s₁.heap.Ns mainGlobals mg) (blt : s₁.heap.Ns builtinsNs mb) (blt2 : ∀ x : Str, x ≠ "__name__" → mb x = bootBuiltins x) (free : s₁.heap.NoLimit) (nogen : s₁.gens = #[])
    (obj : s₁.heap.get? a = some { cls := .type "list", data := .seq vs.toArray }) (nums : IntsAre vs ns) (small : ns.length ≤ sizeLine) (room : Room k callerA)
    (F : ∀ base : Heap, K.In base → base.Ns mainGlobals mg → At callerA P w K mg base CX0 k fa [x] fd sp) (bind : ∀ (s : Shared) (u : Value), BindsTo s fd ⟨[u], []⟩ [(x, u)])
    (pre : ∀ H : Hp, SqL K H a (ns.map V.int) → sp [.ref a] H (fun v _ => v = .bl true) fun _ _ _ => False) :
    codeAny (model P w) callerA (.call (.ref fa) ⟨[.ref a], []⟩) (fun r s' => r = .ok (.ret (.bool true)) ∧ OldK s₁.heap s'.heap ∧ s'.os = s₁.os ∧ AllBare s'.gens) s₁ := by
  have rel := vals_ints nums
  have len := nums.length
  have ok : HOk P w (scriptH K a vs ns) s₁.heap := fun b u hb => by
    obtain ⟨rfl, _, rfl⟩ := scriptH_some hb
    exact ⟨obj, by rw [List.length_map]; exact small, vs, _, rel, obj⟩
  have seen : SqL K (scriptH K a vs ns) a (ns.map V.int) := by
    cases c : K.lookup a with
    | none => exact .inl (.inr ⟨_, if_pos ⟨rfl, c⟩⟩)
    | some o =>
      have q := inK a o c
      rw [obj] at q
      cases q
      exact .inr ⟨_, vs.toArray, _, c, rfl, rfl, rfl, by rw [List.size_toArray, len]; exact small, by simpa using rel⟩
  have hid : ∀ {b : Addr} {o : Obj}, s₁.heap.get? b = some o → scriptH K a vs ns b = none → (hidT s₁.heap (scriptH K a vs ns)).get? b = some o := fun e n => hidT_get e n
  have none_of : ∀ {b : Addr} {o : Obj}, s₁.heap.get? b = some o → (b = a → K.lookup a = none → False) → scriptH K a vs ns b = none := fun {b o} _ no => by
    cases q : scriptH K a vs ns b with
    | none => rfl
    | some u =>
      obtain ⟨h1, h2, _⟩ := scriptH_some q
      exact (no h1 h2).elim
  have nsH : ∀ {b : Addr} {m : Str → Option Value}, s₁.heap.Ns b m → (hidT s₁.heap (scriptH K a vs ns)).Ns b m := fun {b m} n => by
    obtain ⟨o, es, ep, e, d, r⟩ := n
    refine ⟨o, es, ep, hid e (none_of e fun h1 _ => ?_), d, r⟩
    subst h1
    rw [obj] at e
    cases e
    have d' : Data.seq vs.toArray _ = Data.dict es ep := d
    cases d'
  have kH : K.In (hidT s₁.heap (scriptH K a vs ns)) := fun b o e => hid (inK b o e) (none_of (inK b o e) fun h1 h2 => by
    subst h1
    rw [h2] at e
    cases e)
  have mod : Mod K mg (hidT s₁.heap (scriptH K a vs ns)) := ⟨kH, nsH glb, ⟨mb, nsH blt, blt2⟩, let ⟨c, h1, h2⟩ := free; ⟨c, nsH h1, h2⟩⟩
  have st0 : Env0 P w K mg (hidT s₁.heap (scriptH K a vs ns)) callerA [] s₁ (scriptH K a vs ns) :=
    ⟨rfl, mod, fun b o e => of_hidT e, Nat.le_of_eq (hidT_size _ _), trivial, fun b hb => absurd (show b ∈ ([] : List Addr) from hb) List.not_mem_nil, ok, .of_eq nogen⟩
  refine codeAny_mono ((F _ kH (nsH glb)).go [] s₁ (scriptH K a vs ns) ⟨[.ref a], []⟩ [.ref a] [.ref a] _ _ room st0 (bind s₁ (.ref a)) (.cons rfl .nil) (pre _ seen)) fun r s' out => ?_
  cases r with
  | error e => exact out.elim
  | ok fl =>
    cases fl with
    | next => exact out.elim
    | brk => exact out.elim
    | cont => exact out.elim
    | ret u =>
      obtain ⟨v, H', os, bare, un, ok', rv, q⟩ := out
      obtain rfl : v = .bl true := q
      obtain rfl : u = Value.bool true := rv
      refine ⟨rfl, OldK.of_keep fun b o e => ?_, os, bare⟩
      cases c : scriptH K a vs ns b with
      | none => exact un.keep b o e c (fun z => absurd (show b ∈ ([] : List Addr) from z) List.not_mem_nil) (by simp)
      | some u =>
        obtain ⟨_, _, rfl⟩ := scriptH_some c
        obtain ⟨e1, _⟩ := ok b _ c
        obtain ⟨e2, _⟩ := ok' b _ (un.frzs b _ _ c)
        rw [e] at e1
        cases e1
        exact e2
theorem walk_at_of {l : PySem.W.OpenLaw} {n k : Nat} {q : Program} {loose : List Str} {XP : (Str → Option Value) → Heap → Prop} {YP : World → Heap → Prop} {d : DefRec} {K : Params → PySem.W.Frag} {sp : World → Sp} {x : Str}
    (most : l.most = some n) (small : n ≤ sizeLine) (nodef : d.params.defaults = []) (room : Room k callerA) (inK : ∀ (w : World) (h : Heap), YP w h → (K w.params).In h)
    (F : ∀ (w : World) (mg : Str → Option Value) (fa : Addr) (h : Heap), (K w.params).In h → h.Ns mainGlobals mg → mg d.name = some (.ref fa) →
      ∃ fd : FuncData, (∀ (s : Shared) (u : Value), BindsTo s fd ⟨[u], []⟩ [(x, u)]) ∧ ∀ base : Heap, (K w.params).In base → base.Ns mainGlobals mg → At callerA l.prog w (K w.params) mg base CX0 k fa [x] fd (sp w))
    (pre : ∀ (w : World) (H : Hp) (a : Addr) (ns : List Int), ns.length ≤ n → SqL (K w.params) H a (ns.map V.int) → sp w [.ref a] H (fun v _ => v = .bl true) fun _ _ _ => False) :
    PySem.W.WalkO q loose XP YP l.row.toRowW d [] (fun f vs => PySem.call f vs) :=
  Att.attach_call most nodef fun w s₀ s₁ mg mb fa o pm cd doc a vs ns G Y ho hd hcd hmg obj nums len nogen => by
    have kx := inK w _ Y
    obtain ⟨fd, bind, promise⟩ := F w mg fa _ kx G.T.g hmg
    exact law_at kx G.T.g G.T.b G.T.builtins G.T.nolimit nogen obj nums (Nat.le_trans len small) room promise bind fun H hS => pre w H a ns len hS
/-! ### repr -/
theorem guards_deeper {A : Around} {env : Env} (h : A.guards = some []) : (A.deeper env).guards = some [] := h
def rRepr (K : PySem.W.Frag) : List V → Hp → VK → Prop := fun xs H Q => ∃ v d, xs = [v] ∧ Dp K H v d ∧ d.showable = true ∧ d.hasDict = false ∧ d.depth ≤ 60 ∧ d.shown.length ≤ sizeLine ∧ Q (.str d.shown) H
theorem call_reprD {X : Cx} {k : Nat} (hr : Room k X.A) (hg : X.A.guards = some []) : CallR X (.builtin "repr") (rRepr X.K) := by
  intro pins s σ H xs us Q I r h
  obtain ⟨v, d, rfl, hd, sh, nd, dp, ln, q⟩ := h
  obtain ⟨u, rfl, ru⟩ := vals1 r
  cases hd with
  | non => obtain rfl : u = Value.none := ru; exact PySem.P.repr_of_none ⟨.str _, H, I.tok _, ⟨_, rfl⟩, q⟩
  | bl b =>
    obtain rfl : u = Value.bool b := ru
    refine PySem.P.repr_of_bool ⟨.str _, H, I.tok _, ⟨_, rfl⟩, ?_⟩
    exact q
  | int i =>
    obtain ⟨t, rfl⟩ := (show ∃ t, u = Value.int i t from ru)
    exact PySem.P.repr_of_int (by simpa [PyData.showable] using sh) ⟨.str _, H, I.tok _, ⟨_, rfl⟩, q⟩
  | str x =>
    obtain ⟨t, rfl⟩ := (show ∃ t, u = Value.str x t from ru)
    exact PySem.P.repr_of_str ⟨.str _, H, I.tok _, ⟨_, rfl⟩, q⟩ ln
  | lst h1 h2 =>
    obtain ⟨as, rd⟩ := Dp.reads I _ _ u (.lst h1 h2) ru
    cases (show u = Value.ref _ from ru)
    exact repr_of_reads' rd sh (fun z => by rw [nd] at z; cases z) hg (by have := hr.units; omega) (fun _ _ e => e) (fun h' t tk hk => ⟨.str _, H, I.kept (t' := tk) hk, ⟨_, rfl⟩, q⟩) ln
  | tup h1 h2 =>
    obtain ⟨as, rd⟩ := Dp.reads I _ _ u (.tup h1 h2) ru
    cases (show u = Value.ref _ from ru)
    exact repr_of_reads' rd sh (fun z => by rw [nd] at z; cases z) hg (by have := hr.units; omega) (fun _ _ e => e) (fun h' t tk hk => ⟨.str _, H, I.kept (t' := tk) hk, ⟨_, rfl⟩, q⟩) ln
section
variable {P : Program} {w : World} {K : PySem.W.Frag} {mg : Str → Option Value} {base : Heap}
/-- the same where nothing is let out -/
theorem fun_at0 {A : Around} {x qual : Str} {st : Stmt} {f : Addr} {fd : FuncData} {N ps : List Str} {k : Nat} {sp : Sp} (F : Fun K x qual st f fd) (S : FnScope N ps (defScope st)) (len : ∀ vs H Q E, sp vs H Q E → vs.length = ps.length)
    (body : ∀ (cdv : Value) (outer : List Env) (s : Shared) (H : Hp) (vs : List V) (Q : VK) (E : XK), Room k (A.deeper (envOfC qual (defScope st) s.heap.objs.size f cdv)) → sp vs H Q E →
      ∃ t, PSs (cxOf CX0 P w K mg base N qual (defScope st) f cdv A outer s H E).nox (defBody st) t ∧ t { nx := fun _ H' => Q .non H', rt := Q } (start N vs) H) : At A P w K mg base CX0 (k + 1) f ps fd sp :=
  fun_at F S len fun cdv outer s H vs Q E hr hsp => by
    obtain ⟨t, h, q⟩ := body cdv outer s H vs Q E hr hsp
    exact ⟨t, h.nox, q⟩
end
end Rs
namespace K14
open PySem PySem.Spec PyProof.Rows L2 Rs
local macro_rules | `(tactic| walk_at "om") => `(tactic| first | omega | (dsimp only; omega))
local macro_rules | `(tactic| walk_at "side") => `(tactic| first | omega | (dsimp only; omega) | decide | (unfold CMul; omega) | (unfold CDiv; omega) | (unfold CPow; omega) | exact wide_div (b := 64) (by omega) (by omega) (by decide) (by decide))
local macro_rules | `(tactic| walk_at "hp") => `(tactic| first | assumption | exact upd_same)
local macro_rules | `(tactic| walk_at "sq") => `(tactic| first | assumption | exact SqL.of (by assumption) | exact SqL.of upd_same)
local macro_rules | `(tactic| walk_at "st") => `(tactic| first
  | refine ⟨_, rfl, ?_⟩
  | (refine ⟨_, _, rfl, rfl, And.intro ?side ?_⟩; (case side => walk_at "side"))
  | refine ⟨_, _, rfl, rfl, ?_⟩
  | (refine' ⟨_, _, _, _, rfl, rfl, SqL.of ?hp, ?atx, ?_⟩; (case hp => walk_at "hp"); (case atx => exact rfl))
  | (refine' ⟨_, _, _, _, rfl, rfl, ?hp, ?atx, ?_⟩; (case hp => walk_at "hp"); (case atx => exact rfl))
  | (refine' ⟨_, _, rfl, Or.inl ?sq, ?_⟩; (case sq => walk_at "sq"))
  | refine Or.inl ⟨_, rfl, ?_⟩
  | refine Or.inr ⟨_, rfl, ?_⟩)
local macro_rules | `(tactic| walk_at "evd") => `(tactic| first
  | exact evd_int
  | exact evd_str
  | exact evd_non
  | exact evd_bl
  | exact evd_nil
  | (refine evd_cons ?_ (fun _ => ?_) <;> walk_at "evd")
  | (refine evd_tup ?_ (Nat.le_of_ble_eq_true rfl); walk_at "evd"))

def topS (i : Nat) : Stmt := PySem.Challenge.pw_ringsums_k14_slips_made_and_refused.main.body.getD i (.Pass ⟨0, 0, 0, 0⟩)
abbrev s_InvalidLane___init__ : Stmt := inClass (topS 2) 0
theorem sc_InvalidLane___init__ : FnScope ["self", "word"] ["self", "word"] (defScope s_InvalidLane___init__) := ⟨rfl, rfl, rfl, by decide +kernel, rfl, by decide +kernel, by decide +kernel⟩
abbrev s_InvalidRows___init__ : Stmt := inClass (topS 3) 0
theorem sc_InvalidRows___init__ : FnScope ["self", "at"] ["self", "at"] (defScope s_InvalidRows___init__) := ⟨rfl, rfl, rfl, by decide +kernel, rfl, by decide +kernel, by decide +kernel⟩
abbrev s_InvalidSlip___init__ : Stmt := inClass (topS 4) 0
theorem sc_InvalidSlip___init__ : FnScope ["self", "word"] ["self", "word"] (defScope s_InvalidSlip___init__) := ⟨rfl, rfl, rfl, by decide +kernel, rfl, by decide +kernel, by decide +kernel⟩
abbrev s_Slip___init__ : Stmt := inClass (topS 10) 0
theorem sc_Slip___init__ : FnScope ["self", "kind", "turn", "machine", "lane"] ["self", "kind", "turn", "machine", "lane"] (defScope s_Slip___init__) := ⟨rfl, rfl, rfl, by decide +kernel, rfl, by decide +kernel, by decide +kernel⟩
abbrev s_Slip___eq__ : Stmt := inClass (topS 10) 1
theorem sc_Slip___eq__ : FnScope ["self", "other"] ["self", "other"] (defScope s_Slip___eq__) := ⟨rfl, rfl, rfl, by decide +kernel, rfl, by decide +kernel, by decide +kernel⟩
abbrev s_is_whole : Stmt := topS 6
theorem sc_is_whole : FnScope ["value"] ["value"] (defScope s_is_whole) := ⟨rfl, rfl, rfl, by decide +kernel, rfl, by decide +kernel, by decide +kernel⟩
abbrev s_is_number : Stmt := topS 7
theorem sc_is_number : FnScope ["value"] ["value"] (defScope s_is_number) := ⟨rfl, rfl, rfl, by decide +kernel, rfl, by decide +kernel, by decide +kernel⟩
abbrev s__law_box : Stmt := topS 12
theorem sc__law_box : FnScope ["_law_script", "_law_k", "_law_own", "_law_cell", "_law_seed"] ["_law_script", "_law_k", "_law_own"] (defScope s__law_box) := ⟨rfl, rfl, rfl, by decide +kernel, rfl, by decide +kernel, by decide +kernel⟩
abbrev s__law_take : Stmt := topS 13
theorem sc__law_take : FnScope ["_law_box_here", "_law_many", "_law_digit", "_law_raw", "_law_wide"] ["_law_box_here", "_law_many"] (defScope s__law_take) := ⟨rfl, rfl, rfl, by decide +kernel, rfl, by decide +kernel, by decide +kernel⟩
abbrev s__law_pick : Stmt := topS 14
theorem sc__law_pick : FnScope ["_law_box_here", "_law_items"] ["_law_box_here", "_law_items"] (defScope s__law_pick) := ⟨rfl, rfl, rfl, by decide +kernel, rfl, by decide +kernel, by decide +kernel⟩
abbrev s__law_mixed : Stmt := topS 15
theorem sc__law_mixed : FnScope ["_law_box_here", "_law_items", "_law_left", "_law_found", "_law_turn"] ["_law_box_here", "_law_items"] (defScope s__law_mixed) := ⟨rfl, rfl, rfl, by decide +kernel, rfl, by decide +kernel, by decide +kernel⟩
abbrev s__law_refused : Stmt := topS 16
theorem sc__law_refused : FnScope ["_law_some", "_law_found", "e"] ["_law_some"] (defScope s__law_refused) := ⟨rfl, rfl, rfl, by decide +kernel, rfl, by decide +kernel, by decide +kernel⟩
abbrev s__law_drawn : Stmt := topS 17
theorem sc__law_drawn : FnScope ["_law_box_here", "_law_some", "_law_turn"] ["_law_box_here"] (defScope s__law_drawn) := ⟨rfl, rfl, rfl, by decide +kernel, rfl, by decide +kernel, by decide +kernel⟩
abbrev s_law : Stmt := topS 18
theorem sc_law : FnScope ["_law_script", "_law_k", "_law_box_here", "_law_words", "_law_bad", "_law_turn", "_law_one", "_law_other", "_law_made", "_law_rival", "_law_are_one", "_law_given", "_law_spoilt", "_law_at"] ["_law_script"] (defScope s_law) := ⟨rfl, rfl, rfl, by decide +kernel, rfl, by decide +kernel, by decide +kernel⟩
/-- what the top has written -/
structure Txt (K : PySem.W.Frag) (mg : Str → Option Value) where
  c_RingError : Addr
  m_RingError : mg "RingError" = some (.ref c_RingError)
  c_InvalidLane : Addr
  m_InvalidLane : mg "InvalidLane" = some (.ref c_InvalidLane)
  a_InvalidLane___init__ : Addr
  d_InvalidLane___init__ : FuncData
  F_InvalidLane___init__ : Fun K "__init__" "InvalidLane.__init__" s_InvalidLane___init__ a_InvalidLane___init__ d_InvalidLane___init__
  b_InvalidLane___init__ : Binds K d_InvalidLane___init__ ["self", "word"] []
  k_InvalidLane___init__ : PySem.W.keepIn K (.ref a_InvalidLane___init__) = true
  x_InvalidLane : OexC K c_InvalidLane
  X_InvalidLane : ExX K c_InvalidLane
  f_InvalidLane : XfC K c_InvalidLane
  n_InvalidLane : PySem.W.findIn K (.ref c_InvalidLane) "word" = some none
  i_InvalidLane : PySem.W.findIn K (.ref c_InvalidLane) "__init__" = some (some (.ref a_InvalidLane___init__))
  t_InvalidLane : PySem.W.typeIn K (.ref a_InvalidLane___init__) = some (.type "function")
  e_InvalidLane : PySem.W.exmOne K (.ref c_InvalidLane) (.ref c_InvalidLane) = some true
  c_InvalidRows : Addr
  m_InvalidRows : mg "InvalidRows" = some (.ref c_InvalidRows)
  a_InvalidRows___init__ : Addr
  d_InvalidRows___init__ : FuncData
  F_InvalidRows___init__ : Fun K "__init__" "InvalidRows.__init__" s_InvalidRows___init__ a_InvalidRows___init__ d_InvalidRows___init__
  b_InvalidRows___init__ : Binds K d_InvalidRows___init__ ["self", "at"] []
  k_InvalidRows___init__ : PySem.W.keepIn K (.ref a_InvalidRows___init__) = true
  x_InvalidRows : OexC K c_InvalidRows
  X_InvalidRows : ExX K c_InvalidRows
  f_InvalidRows : XfC K c_InvalidRows
  n_InvalidRows : PySem.W.findIn K (.ref c_InvalidRows) "at" = some none
  i_InvalidRows : PySem.W.findIn K (.ref c_InvalidRows) "__init__" = some (some (.ref a_InvalidRows___init__))
  t_InvalidRows : PySem.W.typeIn K (.ref a_InvalidRows___init__) = some (.type "function")
  e_InvalidRows : PySem.W.exmOne K (.ref c_InvalidRows) (.ref c_InvalidRows) = some true
  c_InvalidSlip : Addr
  m_InvalidSlip : mg "InvalidSlip" = some (.ref c_InvalidSlip)
  a_InvalidSlip___init__ : Addr
  d_InvalidSlip___init__ : FuncData
  F_InvalidSlip___init__ : Fun K "__init__" "InvalidSlip.__init__" s_InvalidSlip___init__ a_InvalidSlip___init__ d_InvalidSlip___init__
  b_InvalidSlip___init__ : Binds K d_InvalidSlip___init__ ["self", "word"] []
  k_InvalidSlip___init__ : PySem.W.keepIn K (.ref a_InvalidSlip___init__) = true
  x_InvalidSlip : OexC K c_InvalidSlip
  X_InvalidSlip : ExX K c_InvalidSlip
  f_InvalidSlip : XfC K c_InvalidSlip
  n_InvalidSlip : PySem.W.findIn K (.ref c_InvalidSlip) "word" = some none
  i_InvalidSlip : PySem.W.findIn K (.ref c_InvalidSlip) "__init__" = some (some (.ref a_InvalidSlip___init__))
  t_InvalidSlip : PySem.W.typeIn K (.ref a_InvalidSlip___init__) = some (.type "function")
  e_InvalidSlip : PySem.W.exmOne K (.ref c_InvalidSlip) (.ref c_InvalidSlip) = some true
  c_Slip : Addr
  m_Slip : mg "Slip" = some (.ref c_Slip)
  C_Slip : Cls K c_Slip
  n_Slip_kind : NoAttr K c_Slip "kind"
  n_Slip_turn : NoAttr K c_Slip "turn"
  n_Slip_machine : NoAttr K c_Slip "machine"
  n_Slip_lane : NoAttr K c_Slip "lane"
  I_Slip : OwnI K c_Slip
  N_Slip : OwnN K c_Slip
  a_Slip___init__ : Addr
  d_Slip___init__ : FuncData
  F_Slip___init__ : Fun K "__init__" "Slip.__init__" s_Slip___init__ a_Slip___init__ d_Slip___init__
  b_Slip___init__ : Binds K d_Slip___init__ ["self", "kind", "turn", "machine", "lane"] []
  k_Slip___init__ : PySem.W.keepIn K (.ref a_Slip___init__) = true
  M_Slip : Mk K c_Slip a_Slip___init__
  a_Slip___eq__ : Addr
  d_Slip___eq__ : FuncData
  F_Slip___eq__ : Fun K "__eq__" "Slip.__eq__" s_Slip___eq__ a_Slip___eq__ d_Slip___eq__
  b_Slip___eq__ : Binds K d_Slip___eq__ ["self", "other"] []
  k_Slip___eq__ : PySem.W.keepIn K (.ref a_Slip___eq__) = true
  O_Slip : OwnQ K c_Slip a_Slip___eq__
  kit_InvalidSlip_RingError : PySem.W.kitOne K (.ref c_InvalidSlip) (.ref c_RingError) = some true
  kit_InvalidSlip_InvalidLane : PySem.W.kitOne K (.ref c_InvalidSlip) (.ref c_InvalidLane) = some false
  kit_InvalidSlip_InvalidRows : PySem.W.kitOne K (.ref c_InvalidSlip) (.ref c_InvalidRows) = some false
  A_KINDS : Addr
  m_KINDS : mg "KINDS" = some (.ref A_KINDS)
  s_KINDS : ∀ H, SqT K H A_KINDS [.str "again", .str "lost"]
  a_is_whole : Addr
  d_is_whole : FuncData
  F_is_whole : Fun K "is_whole" "is_whole" s_is_whole a_is_whole d_is_whole
  b_is_whole : Binds K d_is_whole ["value"] []
  k_is_whole : PySem.W.keepIn K (.ref a_is_whole) = true
  m_is_whole : mg "is_whole" = some (.ref a_is_whole)
  a_is_number : Addr
  d_is_number : FuncData
  F_is_number : Fun K "is_number" "is_number" s_is_number a_is_number d_is_number
  b_is_number : Binds K d_is_number ["value"] []
  k_is_number : PySem.W.keepIn K (.ref a_is_number) = true
  m_is_number : mg "is_number" = some (.ref a_is_number)
  a__law_box : Addr
  d__law_box : FuncData
  F__law_box : Fun K "_law_box" "_law_box" s__law_box a__law_box d__law_box
  b__law_box : Binds K d__law_box ["_law_script", "_law_k", "_law_own"] []
  k__law_box : PySem.W.keepIn K (.ref a__law_box) = true
  m__law_box : mg "_law_box" = some (.ref a__law_box)
  a__law_take : Addr
  d__law_take : FuncData
  F__law_take : Fun K "_law_take" "_law_take" s__law_take a__law_take d__law_take
  b__law_take : Binds K d__law_take ["_law_box_here", "_law_many"] []
  k__law_take : PySem.W.keepIn K (.ref a__law_take) = true
  m__law_take : mg "_law_take" = some (.ref a__law_take)
  a__law_pick : Addr
  d__law_pick : FuncData
  F__law_pick : Fun K "_law_pick" "_law_pick" s__law_pick a__law_pick d__law_pick
  b__law_pick : Binds K d__law_pick ["_law_box_here", "_law_items"] []
  k__law_pick : PySem.W.keepIn K (.ref a__law_pick) = true
  m__law_pick : mg "_law_pick" = some (.ref a__law_pick)
  a__law_mixed : Addr
  d__law_mixed : FuncData
  F__law_mixed : Fun K "_law_mixed" "_law_mixed" s__law_mixed a__law_mixed d__law_mixed
  b__law_mixed : Binds K d__law_mixed ["_law_box_here", "_law_items"] []
  k__law_mixed : PySem.W.keepIn K (.ref a__law_mixed) = true
  m__law_mixed : mg "_law_mixed" = some (.ref a__law_mixed)
  a__law_refused : Addr
  d__law_refused : FuncData
  F__law_refused : Fun K "_law_refused" "_law_refused" s__law_refused a__law_refused d__law_refused
  b__law_refused : Binds K d__law_refused ["_law_some"] []
  k__law_refused : PySem.W.keepIn K (.ref a__law_refused) = true
  m__law_refused : mg "_law_refused" = some (.ref a__law_refused)
  a__law_drawn : Addr
  d__law_drawn : FuncData
  F__law_drawn : Fun K "_law_drawn" "_law_drawn" s__law_drawn a__law_drawn d__law_drawn
  b__law_drawn : Binds K d__law_drawn ["_law_box_here"] []
  k__law_drawn : PySem.W.keepIn K (.ref a__law_drawn) = true
  m__law_drawn : mg "_law_drawn" = some (.ref a__law_drawn)
  a_law : Addr
  d_law : FuncData
  F_law : Fun K "law" "law" s_law a_law d_law
  b_law : Binds K d_law ["_law_script"] []
  k_law : PySem.W.keepIn K (.ref a_law) = true
  m_law : mg "law" = some (.ref a_law)
  z_abs : mg "abs" = none
  z_bool : mg "bool" = none
  z_int : mg "int" = none
  z_isinstance : mg "isinstance" = none
  z_len : mg "len" = none
  z_list : mg "list" = none
  z_max : mg "max" = none
  z_min : mg "min" = none
  z_range : mg "range" = none
  z_repr : mg "repr" = none
section
variable {P : Program} {w : World} {K : PySem.W.Frag} {mg : Str → Option Value} {base : Heap}
def spTake : Sp := fun vs H Q _ => ∃ (b : Addr) (m : Int), vs = [.ref b, .int m] ∧ Box H b ∧ 0 < m ∧ m < 2 ^ 40 ∧
  ∀ (r : Int) (H' : Hp), 0 ≤ r → r < m → Box H' b → But b H H' → Q (.int r) H'
theorem ok_take (T : Txt K mg) : FnOk P w K mg base CX0 1 T.a__law_take T.d__law_take ["_law_box_here", "_law_many"] spTake := by
  refine T.F__law_take.ok sc__law_take (fun vs H Q E h => ?_) (fun cdv A outer s H vs Q E hr h => ?_)
  · obtain ⟨b, m, rfl, _⟩ := h
    rfl
  · obtain ⟨b, m, rfl, ⟨x, y, z, hb, ⟨x0, y1, y2⟩⟩, m0, m1, k⟩ := h
    have nd := sc__law_take.nd
    refine ⟨_, (pss_cons (ps_if (pt_cmpR op_gt (pe_ix ix_list (pv 0) pe_int (fun _ _ => rfl)) pe_int (nomark _)) (pss_cons (ps_set (i := 2) nd rfl (Or.inl rfl) (pe_op op_mod (pe_callTy call_int1 (by rfl) T.z_int (by decide +kernel) (pa_cons (pe_ix ix_list (pv 0) pe_int (fun _ _ => rfl)) pa_nil)) (pv 1)))
    (pss_cons (ps_asg (pe_op op_fdivW (pe_ix ix_list (pv 0) pe_int (fun _ _ => rfl)) (pv 1)) (pg_sub (pv 0) pe_int set_list))
    (pss_one (ps_ret (pv 2))))) pss_nil)
    (pss_cons (ps_asg (pe_op op_add (pe_ix ix_list (pv 0) pe_int (fun _ _ => rfl)) pe_int) (pg_sub (pv 0) pe_int set_list))
    (pss_cons (ps_set (i := 3) nd rfl (Or.inl rfl) (pe_op op_mod (pe_callTy call_int1 (by rfl) T.z_int (by decide +kernel) (pa_cons (pe_op op_mul (pe_op op_add (pe_ix ix_list (pv 0) pe_int (fun _ _ => rfl)) (pe_op op_mul pe_int (pe_ix ix_list (pv 0) pe_int (fun _ _ => rfl)))) pe_int) pa_nil)) pe_int))
    (pss_cons (ps_asg (pe_op op_add (pe_op op_mod (pe_callTy call_int1 (by rfl) T.z_int (by decide +kernel) (pa_cons (pe_op op_add (pe_op op_mul (pv 3) pe_int) pe_int) pa_nil)) pe_int) pe_int) (pg_sub (pv 0) pe_int set_list))
    (pss_cons (ps_if (pt_cmpR op_lt (pv 1) (pe_op op_pow pe_int pe_int) (nomark _)) (pss_one (ps_ret (pe_op op_mod (pe_callTy call_int1 (by rfl) T.z_int (by decide +kernel) (pa_cons (pe_op op_fdiv (pe_op op_add (pe_op op_mul (pv 3) pe_int) (pe_ix ix_list (pv 0) pe_int (fun _ _ => rfl))) pe_int) pa_nil)) (pv 1)))) pss_nil)
    (pss_cons (ps_set (i := 4) nd rfl (Or.inl rfl) (pe_op op_mul (pe_op op_add (pe_op op_mul (pv 3) pe_int) (pe_ix ix_list (pv 0) pe_int (fun _ _ => rfl))) (pe_op op_pow pe_int pe_int)))
    (pss_one (ps_ret (pe_op op_mod (pe_callTy call_int1 (by rfl) T.z_int (by decide +kernel) (pa_cons (pe_op op_add (pe_op op_add (pv 4) (pe_op op_mul (pe_op op_pow (pe_ix ix_list (pv 0) pe_int (fun _ _ => rfl)) pe_int) pe_int)) (pv 3)) pa_nil)) (pv 1)))))))))), ?_⟩
    repeat walk_at "st"
    refine ifB (fun e => ?_) (fun e => ?_)
    · repeat walk_at "st"
      exact k _ _ (Int.emod_nonneg _ (by omega)) (Int.emod_lt_of_pos _ m0) ⟨x / m, y, z, upd_same, Int.ediv_nonneg x0 (by omega), y1, y2⟩ (But.refl _ _).upd
    · repeat walk_at "st"
      refine ifT (decide_eq_true (show m < 2 ^ 40 from m1)) ?_
      repeat walk_at "st"
      exact k _ _ (Int.emod_nonneg _ (by omega)) (Int.emod_lt_of_pos _ m0) ⟨_, _, _, upd_same, x0, by omega, by omega⟩ (((But.refl _ _).upd).upd)
local macro_rules | `(tactic| walk_at "boxtail") => `(tactic| (
  repeat walk_at "st"
  refine ⟨szL (Nat.le_of_ble_eq_true rfl), fun p hp => ?_⟩
  repeat walk_at "st"
  refine' ⟨_, _, _, _, rfl, rfl, SqL.of upd_same, pick2 _ _ _, ?_⟩
  repeat walk_at "st"
  refine ⟨szL (Nat.le_of_ble_eq_true rfl), fun q hq => ?_⟩))
/-- the box of a cell -/
def spBox (K : PySem.W.Frag) : Sp := fun vs H Q _ => ∃ (a : Addr) (ns : List Int) (i own : Int), vs = [.ref a, .int i, .int own] ∧ SqL K H a (ns.map V.int) ∧ 0 ≤ i ∧ i < 1000 ∧ 0 ≤ own ∧ own < 1000 ∧
  ∀ (H' : Hp) (p : Addr), Same H H' → H p = none → Box H' p → Q (.ref p) H'
theorem ok_box (T : Txt K mg) : FnOk P w K mg base CX0 1 T.a__law_box T.d__law_box ["_law_script", "_law_k", "_law_own"] (spBox K) := by
  refine T.F__law_box.ok sc__law_box (fun vs H Q E h => ?_) (fun cdv A outer s H vs Q E hr h => ?_)
  · obtain ⟨a, ns, i, own, rfl, _⟩ := h
    rfl
  · obtain ⟨a, ns, i, own, rfl, hS, i0, i1, o0, o1, k⟩ := h
    have nd := sc__law_box.nd
    refine ⟨_, (pss_cons (ps_set (i := 3) nd rfl (Or.inl rfl) (pe_op op_add (pe_op op_add (pe_op op_mul pe_int (pv 1)) (pe_op op_mul pe_int (pv 2))) pe_int))
    (pss_cons (ps_if (pt_cmpR op_lt (pv 1) (pe_callB call_len_seq (by rfl) T.z_len (by decide +kernel) (pa_cons (pv 0) pa_nil)) (nomark _)) (pss_one (ps_set (i := 3) nd rfl (Or.inl rfl) (pe_callB call_abs (by rfl) T.z_abs (by decide +kernel) (pa_cons (pe_ix ix_list (pv 0) (pv 1) (fun _ _ => rfl)) pa_nil)))) (pss_one (ps_if (pt_cmpR op_gt (pe_callB call_len_seq (by rfl) T.z_len (by decide +kernel) (pa_cons (pv 0) pa_nil)) pe_int (nomark _)) (pss_one (ps_set (i := 3) nd rfl (Or.inl rfl) (pe_op op_add (pv 3) (pe_op op_mul (pe_op op_mod (pe_callTy call_int1 (by rfl) T.z_int (by decide +kernel) (pa_cons (pe_callB call_abs (by rfl) T.z_abs (by decide +kernel) (pa_cons (pe_ix ix_list (pv 0) (pe_op op_mod (pe_callTy call_int1 (by rfl) T.z_int (by decide +kernel) (pa_cons (pv 1) pa_nil)) (pe_callB call_len_seq (by rfl) T.z_len (by decide +kernel) (pa_cons (pv 0) pa_nil))) (fun _ _ => rfl)) pa_nil)) pa_nil)) pe_int) pe_int)))) pss_nil)))
    (pss_cons (ps_set (i := 4) nd rfl (Or.inl rfl) (pe_op op_add (pe_op op_mod (pe_callTy call_int1 (by rfl) T.z_int (by decide +kernel) (pa_cons (pe_op op_add (pe_op op_mul (pe_op op_mod (pe_callTy call_int1 (by rfl) T.z_int (by decide +kernel) (pa_cons (pv 3) pa_nil)) pe_int) pe_int) (pe_op op_mul pe_int (pe_op op_add (pv 1) (pe_op op_mul pe_int (pv 2))))) pa_nil)) pe_int) pe_int))
    (pss_one (ps_ret (pe_lst (pa_cons (pe_ix ix_list (pe_lst (pa_cons pe_int (pa_cons (pv 3) pa_nil))) (pe_callTy call_int1 (by rfl) T.z_int (by decide +kernel) (pa_cons (pe_cmpR op_ge (pv 3) (pe_op op_pow pe_int pe_int) (nomark _)) pa_nil)) (fun _ _ => rfl)) (pa_cons (pv 4) (pa_cons pe_int pa_nil))))))))), ?_⟩
    repeat walk_at "st"
    refine ifB (fun e => ?_) (fun e => ?_)
    · have e := of_decide_eq_true e
      rw [List.length_map] at e
      obtain ⟨z, hz⟩ := ints_at i0 e
      refine ⟨_, rfl, _, rfl, _, _, _, _, rfl, rfl, hS, hz, ?_⟩
      have c0 := natAbs_abs (i := z)
      walk_at "boxtail"
      exact k _ _ ((same_new (by assumption)).trans (same_new (by assumption))) ((same_new (by assumption)).free (by assumption)) ⟨_, _, _, upd_same, ite_ge0 (by decide) c0, by walk_at "om", by walk_at "om"⟩
    · repeat walk_at "st"
      refine ifB (fun e1 => ?_) (fun e1 => ?_)
      · have e1 := of_decide_eq_true e1
        repeat walk_at "st"
        rw [List.length_map] at e1
        obtain ⟨z, hz⟩ := ints_at (ns := ns) (k := i % ((ns.map V.int).length : Nat)) (Int.emod_nonneg _ (by rw [List.length_map]; omega)) (by rw [List.length_map]; exact Int.emod_lt_of_pos _ (by omega))
        refine ⟨_, _, _, _, rfl, rfl, hS, hz, ?_⟩
        have c0 := natAbs_abs (i := z)
        walk_at "boxtail"
        exact k _ _ ((same_new (by assumption)).trans (same_new (by assumption))) ((same_new (by assumption)).free (by assumption)) ⟨_, _, _, upd_same, ite_ge0 (by decide) (by walk_at "om"), by walk_at "om", by walk_at "om"⟩
      · repeat walk_at "st"
        walk_at "boxtail"
        exact k _ _ ((same_new (by assumption)).trans (same_new (by assumption))) ((same_new (by assumption)).free (by assumption)) ⟨_, _, _, upd_same, ite_ge0 (by decide) (by walk_at "om"), by walk_at "om", by walk_at "om"⟩

/-- one of the items of a list -/
def spPick : Sp := fun vs H Q _ => ∃ (b L : Addr) (xs : List V), vs = [.ref b, .ref L] ∧ Box H b ∧ L ≠ b ∧ H L = some (.lst xs) ∧ 0 < xs.length ∧ xs.length < 1000 ∧
  ∀ (v : V) (H' : Hp), v ∈ xs → Box H' b → But b H H' → Q v H'
theorem ok_pick (T : Txt K mg) : FnOk P w K mg base CX0 2 T.a__law_pick T.d__law_pick ["_law_box_here", "_law_items"] spPick := by
  have G__law_take : FnOk P w K mg base CX0 1 T.a__law_take T.d__law_take ["_law_box_here", "_law_many"] spTake := ok_take T
  refine T.F__law_pick.ok sc__law_pick (fun vs H Q E h => ?_) (fun cdv A outer s H vs Q E hr h => ?_)
  · obtain ⟨b, L, xs, rfl, _⟩ := h
    rfl
  · obtain ⟨b, L, xs, rfl, hB, hne, hL, l0, l1, k⟩ := h
    have nd := sc__law_pick.nd
    refine ⟨_, (pss_one (ps_ret (pe_ix ix_list (pv 1) (pe_call G__law_take (hr.mono (by first | decide | omega)) (by rfl) T.m__law_take T.k__law_take T.b__law_take .nil pass0 (pa_cons (pv 0) (pa_cons (pe_callB call_len_seq (by rfl) T.z_len (by decide +kernel) (pa_cons (pv 1) pa_nil)) pa_nil))) (fun _ _ => rfl)))), ?_⟩
    repeat walk_at "st"
    refine ⟨b, _, rfl, hB, by omega, by omega, fun r H' r0 r1 B' k' => ?_⟩
    obtain ⟨v, hv, hz⟩ := mem_at r0 r1
    exact ⟨_, _, _, _, rfl, rfl, SqL.of (k' _ _ hne hL), hz, k v H' hv B' k'⟩

theorem ok_whole (T : Txt K mg) : FnOk P w K mg base CX0 1 T.a_is_whole T.d_is_whole ["value"] spWhole := by
  refine T.F_is_whole.ok sc_is_whole (fun vs H Q E h => ?_) (fun cdv A outer s H vs Q E hr h => ?_)
  · obtain ⟨b, v, rfl, _⟩ := h
    rfl
  · obtain ⟨b, v, rfl, hv, k⟩ := h
    have nd := sc_is_whole.nd
    refine ⟨_, (pss_one (ps_ret (pe_and (pe_callB call_isi (by rfl) T.z_isinstance (by decide +kernel) (pa_cons (pv 0) (pa_cons (pe_bltn (v := .ty "int") (u := .type "int") (by rfl) T.z_int (by decide +kernel) (by exact rfl)) pa_nil))) (pe_one (pe_not (pe_callB call_isi (by rfl) T.z_isinstance (by decide +kernel) (pa_cons (pv 0) (pa_cons (pe_bltn (v := .ty "bool") (u := .type "bool") (by rfl) T.z_bool (by decide +kernel) (by exact rfl)) pa_nil)))))))), ?_⟩
    obtain ⟨t, ty, ki, kb⟩ := hv.ty (K := K)
    refine ⟨_, rfl, _, _, _, _, _, rfl, .ty _, ty, kit_ty ki, _, rfl, ifB (fun e => ?_) (fun e => ?_)⟩
    · refine ⟨_, rfl, _, _, _, _, _, rfl, .ty _, ty, kit_ty kb, _, rfl, ?_⟩
      rw [isInt_bl e]
      exact k
    · show Q (.bl false) H
      rw [isInt_no e]
      exact k
def numOk : V → Bool
  | .int i => decide (0 ≤ i)
  | _ => false
def spNum : Sp := fun vs H Q _ => ∃ (b : Addr) (v : V), vs = [v] ∧ Sh b H v ∧ Q (.bl (numOk v)) H
theorem ok_num (T : Txt K mg) : FnOk P w K mg base CX0 2 T.a_is_number T.d_is_number ["value"] spNum := by
  have G_is_whole : FnOk P w K mg base CX0 1 T.a_is_whole T.d_is_whole ["value"] spWhole := ok_whole T
  refine T.F_is_number.ok sc_is_number (fun vs H Q E h => ?_) (fun cdv A outer s H vs Q E hr h => ?_)
  · obtain ⟨b, v, rfl, _⟩ := h
    rfl
  · obtain ⟨b, v, rfl, hv, k⟩ := h
    have nd := sc_is_number.nd
    refine ⟨_, (pss_one (ps_ret (pe_and (pe_call G_is_whole (hr.mono (by first | decide | omega)) (by rfl) T.m_is_whole T.k_is_whole T.b_is_whole .nil pass0 (pa_cons (pv 0) pa_nil)) (pe_one (pe_cmpR op_ge (pv 0) pe_int (nomark _)))))), ?_⟩
    refine ⟨_, rfl, b, v, rfl, hv, _, rfl, ?_⟩
    cases v with
    | int i => exact ifT rfl ⟨_, rfl, _, _, rfl, rfl, k⟩
    | byt _ => exact hv.elim
    | flt _ => exact hv.elim
    | ty _ => exact hv.elim
    | non => exact ifF rfl k
    | bl _ => exact ifF rfl k
    | str _ => exact ifF rfl k
    | ref _ => exact ifF rfl k
def kinds : List Str := ["again", "lost"]
/-- the name of the first argument that is wrong -/
def dueV (v0 v1 v2 v3 : V) : V := if isOne kinds v0 = false then .str "kind" else if numOk v1 = false then .str "turn" else if numOk v2 = false then .str "machine" else if numOk v3 = false then .str "lane" else .non
def flds (v0 v1 v2 v3 : V) : List (Str × V) := putF "lane" v3 (putF "machine" v2 (putF "turn" v1 (putF "kind" v0 [])))
theorem ok_exc (T : Txt K mg) : FnOk P w K mg base CX0 1 T.a_InvalidSlip___init__ T.d_InvalidSlip___init__ ["self", "word"] (spExc T.c_InvalidSlip "word") := by
  refine T.F_InvalidSlip___init__.ok sc_InvalidSlip___init__ (fun vs H Q E h => ?_) (fun cdv A outer s H vs Q E hr h => ?_)
  · obtain ⟨a, v, rfl, _⟩ := h
    rfl
  · obtain ⟨a, v, rfl, ha, k⟩ := h
    refine ⟨_, pss_one (ps_ost (pv 0) (pv 1)), ?_⟩
    exact ⟨_, rfl, _, rfl, a, T.c_InvalidSlip, rfl, T.x_InvalidSlip, T.n_InvalidSlip, .inl ⟨ha, fun dx hd ne => k dx hd ne⟩⟩
/-- Slip(v0, v1, v2, v3): made, or refused with the first wrong one's name -/
def spInit (CI CS : Addr) : Sp := fun vs H Q E => ∃ (x dx b : Addr) (v0 v1 v2 v3 : V), vs = [.ref x, v0, v1, v2, v3] ∧ H x = some (.ins CS dx []) ∧ Sh b H v0 ∧ Sh b H v1 ∧ Sh b H v2 ∧ Sh b H v3 ∧
  (dueV v0 v1 v2 v3 = .non → Q .non (upd H x (.ins CS dx (flds v0 v1 v2 v3)))) ∧
  (∀ s, dueV v0 v1 v2 v3 = .str s → ∀ d, H d = none → E (.ref CI) (some d) (upd H d (.xd [("word", .str s)])))
theorem ok_init (T : Txt K mg) : FnOk P w K mg base (L2.CX P w) 4 T.a_Slip___init__ T.d_Slip___init__ ["self", "kind", "turn", "machine", "lane"] (spInit T.c_InvalidSlip T.c_Slip) := by
  have G_is_number : FnOk P w K mg base CX0 2 T.a_is_number T.d_is_number ["value"] spNum := ok_num T
  have GE_InvalidSlip : FnOk P w K mg base CX0 1 T.a_InvalidSlip___init__ T.d_InvalidSlip___init__ ["self", "word"] (spExc T.c_InvalidSlip "word") := ok_exc T
  refine T.F_Slip___init__.okX sc_Slip___init__ (fun vs H Q E h => ?_) (fun cdv A outer s H vs Q E hr h => ?_)
  · obtain ⟨x, dx, b, v0, v1, v2, v3, rfl, _⟩ := h
    rfl
  · obtain ⟨x, dx, b, v0, v1, v2, v3, rfl, hx, s0, s1, s2, s3, kn, ke⟩ := h
    have nd := sc_Slip___init__.nd
    refine ⟨_, (pss_cons (ps_if (pt_cmpR (op_notInSh hr.units) (pv 1) (pe_glob rfl T.m_KINDS (rel_ref _)) (by rfl)) (pss_one (ps_raise rfl (takes_of rfl rfl rfl rfl) (pmk_oex T.x_InvalidSlip T.i_InvalidSlip T.t_InvalidSlip GE_InvalidSlip (hr.mono (by first | decide | omega)) T.b_InvalidSlip___init__ .nil pass0 (by rfl) T.m_InvalidSlip (pa_cons pe_str pa_nil)))) pss_nil)
    (pss_cons (ps_if (pt_not (pt_val (pe_call G_is_number (hr.mono (by first | decide | omega)) (by rfl) T.m_is_number T.k_is_number T.b_is_number .nil pass0 (pa_cons (pv 2) pa_nil)))) (pss_one (ps_raise rfl (takes_of rfl rfl rfl rfl) (pmk_oex T.x_InvalidSlip T.i_InvalidSlip T.t_InvalidSlip GE_InvalidSlip (hr.mono (by first | decide | omega)) T.b_InvalidSlip___init__ .nil pass0 (by rfl) T.m_InvalidSlip (pa_cons pe_str pa_nil)))) pss_nil)
    (pss_cons (ps_if (pt_not (pt_val (pe_call G_is_number (hr.mono (by first | decide | omega)) (by rfl) T.m_is_number T.k_is_number T.b_is_number .nil pass0 (pa_cons (pv 3) pa_nil)))) (pss_one (ps_raise rfl (takes_of rfl rfl rfl rfl) (pmk_oex T.x_InvalidSlip T.i_InvalidSlip T.t_InvalidSlip GE_InvalidSlip (hr.mono (by first | decide | omega)) T.b_InvalidSlip___init__ .nil pass0 (by rfl) T.m_InvalidSlip (pa_cons pe_str pa_nil)))) pss_nil)
    (pss_cons (ps_if (pt_not (pt_val (pe_call G_is_number (hr.mono (by first | decide | omega)) (by rfl) T.m_is_number T.k_is_number T.b_is_number .nil pass0 (pa_cons (pv 4) pa_nil)))) (pss_one (ps_raise rfl (takes_of rfl rfl rfl rfl) (pmk_oex T.x_InvalidSlip T.i_InvalidSlip T.t_InvalidSlip GE_InvalidSlip (hr.mono (by first | decide | omega)) T.b_InvalidSlip___init__ .nil pass0 (by rfl) T.m_InvalidSlip (pa_cons pe_str pa_nil)))) pss_nil)
    (pss_cons (ps_fld (pv 0) (pv 1) rfl)
    (pss_cons (ps_fld (pv 0) (pv 2) rfl)
    (pss_cons (ps_fld (pv 0) (pv 3) rfl)
    (pss_one (ps_fld (pv 0) (pv 4) rfl))))))))), ?_⟩
    refine ⟨_, rfl, b, _, kinds, rfl, T.s_KINDS _, s0, ?_⟩
    refine ⟨_, rfl, ?_⟩
    cases h0 : isOne kinds v0 with
    | false => exact ifT rfl (make_exc fun d hd => ke "kind" (by unfold dueV; rw [if_pos h0]) d hd)
    | true =>
    refine ifF rfl ?_
    refine ⟨_, rfl, b, v1, rfl, s1, _, rfl, ?_⟩
    cases h1 : numOk v1 with
    | false => exact ifT rfl (make_exc fun d hd => ke "turn" (by unfold dueV; rw [if_neg (by simp [h0]), if_pos h1]) d hd)
    | true =>
    refine ifF rfl ?_
    refine ⟨_, rfl, b, v2, rfl, s2, _, rfl, ?_⟩
    cases h2 : numOk v2 with
    | false => exact ifT rfl (make_exc fun d hd => ke "machine" (by unfold dueV; rw [if_neg (by simp [h0]), if_neg (by simp [h1]), if_pos h2]) d hd)
    | true =>
    refine ifF rfl ?_
    refine ⟨_, rfl, b, v3, rfl, s3, _, rfl, ?_⟩
    cases h3 : numOk v3 with
    | false => exact ifT rfl (make_exc fun d hd => ke "lane" (by unfold dueV; rw [if_neg (by simp [h0]), if_neg (by simp [h1]), if_neg (by simp [h2]), if_pos h3]) d hd)
    | true =>
    refine ifF rfl ?_
    have hd0 : dueV v0 v1 v2 v3 = .non := by
      unfold dueV
      rw [if_neg (by simp [h0]), if_neg (by simp [h1]), if_neg (by simp [h2]), if_neg (by simp [h3])]
    refine ⟨_, rfl, _, rfl, x, T.c_Slip, dx, _, rfl, hx, T.C_Slip, T.n_Slip_kind, by decide, ?_⟩
    refine ⟨_, rfl, _, rfl, x, T.c_Slip, dx, _, rfl, upd_same, T.C_Slip, T.n_Slip_turn, by show 1 < 1000; decide, ?_⟩
    refine ⟨_, rfl, _, rfl, x, T.c_Slip, dx, _, rfl, upd_same, T.C_Slip, T.n_Slip_machine, by show 2 < 1000; decide, ?_⟩
    refine ⟨_, rfl, _, rfl, x, T.c_Slip, dx, _, rfl, upd_same, T.C_Slip, T.n_Slip_lane, by show 3 < 1000; decide, ?_⟩
    show Q .non _
    rw [upd_upd, upd_upd, upd_upd]
    exact kn hd0
/-- a good one is made -/
def spInitG (CS : Addr) : Sp := fun vs H Q _ => ∃ (x dx b : Addr) (v0 v1 v2 v3 : V), vs = [.ref x, v0, v1, v2, v3] ∧ H x = some (.ins CS dx []) ∧ Sh b H v0 ∧ Sh b H v1 ∧ Sh b H v2 ∧ Sh b H v3 ∧
  dueV v0 v1 v2 v3 = .non ∧ Q .non (upd H x (.ins CS dx (flds v0 v1 v2 v3)))
theorem due_non {v0 v1 v2 v3 : V} (h : dueV v0 v1 v2 v3 = .non) : isOne kinds v0 = true ∧ numOk v1 = true ∧ numOk v2 = true ∧ numOk v3 = true := by
  unfold dueV at h
  split at h
  · cases h
  · split at h
    · cases h
    · split at h
      · cases h
      · split at h
        · cases h
        · rename_i a b c d
          exact ⟨by simpa using a, by simpa using b, by simpa using c, by simpa using d⟩
theorem ok_initG (T : Txt K mg) : FnOk P w K mg base CX0 4 T.a_Slip___init__ T.d_Slip___init__ ["self", "kind", "turn", "machine", "lane"] (spInitG T.c_Slip) := by
  have G_is_number : FnOk P w K mg base CX0 2 T.a_is_number T.d_is_number ["value"] spNum := ok_num T
  refine T.F_Slip___init__.ok sc_Slip___init__ (fun vs H Q E h => ?_) (fun cdv A outer s H vs Q E hr h => ?_)
  · obtain ⟨x, dx, b, v0, v1, v2, v3, rfl, _⟩ := h
    rfl
  · obtain ⟨x, dx, b, v0, v1, v2, v3, rfl, hx, s0, s1, s2, s3, hd0, kn⟩ := h
    obtain ⟨h0, h1, h2, h3⟩ := due_non hd0
    have nd := sc_Slip___init__.nd
    refine ⟨_, (pss_cons (ps_if (pt_cmpR (op_notInSh hr.units) (pv 1) (pe_glob rfl T.m_KINDS (rel_ref _)) (by rfl)) (pss_one ps_never) pss_nil)
    (pss_cons (ps_if (pt_not (pt_val (pe_call G_is_number (hr.mono (by first | decide | omega)) (by rfl) T.m_is_number T.k_is_number T.b_is_number .nil pass0 (pa_cons (pv 2) pa_nil)))) (pss_one ps_never) pss_nil)
    (pss_cons (ps_if (pt_not (pt_val (pe_call G_is_number (hr.mono (by first | decide | omega)) (by rfl) T.m_is_number T.k_is_number T.b_is_number .nil pass0 (pa_cons (pv 3) pa_nil)))) (pss_one ps_never) pss_nil)
    (pss_cons (ps_if (pt_not (pt_val (pe_call G_is_number (hr.mono (by first | decide | omega)) (by rfl) T.m_is_number T.k_is_number T.b_is_number .nil pass0 (pa_cons (pv 4) pa_nil)))) (pss_one ps_never) pss_nil)
    (pss_cons (ps_fld (pv 0) (pv 1) rfl)
    (pss_cons (ps_fld (pv 0) (pv 2) rfl)
    (pss_cons (ps_fld (pv 0) (pv 3) rfl)
    (pss_one (ps_fld (pv 0) (pv 4) rfl))))))))), ?_⟩
    refine ⟨_, rfl, b, _, kinds, rfl, T.s_KINDS _, s0, ?_⟩
    refine ⟨_, rfl, ?_⟩
    refine ifF (by simp [h0]) ?_
    refine ⟨_, rfl, b, v1, rfl, s1, _, rfl, ifF (by simp [h1]) ?_⟩
    refine ⟨_, rfl, b, v2, rfl, s2, _, rfl, ifF (by simp [h2]) ?_⟩
    refine ⟨_, rfl, b, v3, rfl, s3, _, rfl, ifF (by simp [h3]) ?_⟩
    refine ⟨_, rfl, _, rfl, x, T.c_Slip, dx, _, rfl, hx, T.C_Slip, T.n_Slip_kind, by decide, ?_⟩
    refine ⟨_, rfl, _, rfl, x, T.c_Slip, dx, _, rfl, upd_same, T.C_Slip, T.n_Slip_turn, by show 1 < 1000; decide, ?_⟩
    refine ⟨_, rfl, _, rfl, x, T.c_Slip, dx, _, rfl, upd_same, T.C_Slip, T.n_Slip_machine, by show 2 < 1000; decide, ?_⟩
    refine ⟨_, rfl, _, rfl, x, T.c_Slip, dx, _, rfl, upd_same, T.C_Slip, T.n_Slip_lane, by show 3 < 1000; decide, ?_⟩
    show Q .non _
    rw [upd_upd, upd_upd, upd_upd]
    exact kn
/-- one == other: of its class with the same four, or of a built-in kind -/
def sameS (k : Str) (t m l : Int) (k' : Str) (t' m' l' : Int) : Bool := (k == k') && ((t == t') && ((m == m') && (l == l')))
def spEqS (K : PySem.W.Frag) (C : Addr) : Sp := fun vs H Q _ => ∃ (a dx : Addr) (k : Str) (t m l : Int) (y : V), vs = [.ref a, y] ∧ H a = some (.ins C dx (flds (.str k) (.int t) (.int m) (.int l))) ∧
  ((∃ (c dy : Addr) (k' : Str) (t' m' l' : Int), y = .ref c ∧ H c = some (.ins C dy (flds (.str k') (.int t') (.int m') (.int l'))) ∧ Q (.bl (sameS k t m l k' t' m' l')) H) ∨
   (∃ T, TyX K H y (.type T) ∧ BT T ∧ Q (.bl false) H))
theorem ok_eq (T : Txt K mg) : FnOk P w K mg base CX0 1 T.a_Slip___eq__ T.d_Slip___eq__ ["self", "other"] (spEqS K T.c_Slip) := by
  refine T.F_Slip___eq__.ok sc_Slip___eq__ (fun vs H Q E h => ?_) (fun cdv A outer s H vs Q E hr h => ?_)
  · obtain ⟨a, dx, k, t, m, l, y, rfl, _⟩ := h
    rfl
  · obtain ⟨a, dx, k, t, m, l, y, rfl, ha, hy⟩ := h
    have nd := sc_Slip___eq__.nd
    refine ⟨_, (pss_one (ps_ret (pe_and (pe_callB call_isi (by rfl) T.z_isinstance (by decide +kernel) (pa_cons (pv 1) (pa_cons (pe_glob rfl T.m_Slip (rel_ref _)) pa_nil))) (pe_and (pe_cmpR op_eq (pe_fld (pv 0) rfl) (pe_fld (pv 1) rfl) (nomark _)) (pe_and (pe_cmpR op_eq (pe_fld (pv 0) rfl) (pe_fld (pv 1) rfl) (nomark _)) (pe_and (pe_cmpR op_eq (pe_fld (pv 0) rfl) (pe_fld (pv 1) rfl) (nomark _)) (pe_one (pe_cmpR op_eq (pe_fld (pv 0) rfl) (pe_fld (pv 1) rfl) (nomark _))))))))), ?_⟩
    rcases hy with ⟨c, dy, k', t', m', l', rfl, hc, q⟩ | ⟨TT, ty, bt, q⟩
    · refine ⟨_, rfl, _, _, _, _, _, rfl, .own _, T.I_Slip.ty T.C_Slip hc, kit_self, _, rfl, ifT rfl ?_⟩
      have d0 : decide (V.str k = V.str k') = (k == k') := dec_str
      have d1 : decide (V.int t = V.int t') = (t == t') := dec_int
      have d2 : decide (V.int m = V.int m') = (m == m') := dec_int
      have d3 : decide (V.int l = V.int l') = (l == l') := dec_int
      have no : sameS k t m l k' t' m' l' = false → Q (.bl false) H := fun e => by rw [e] at q; exact q
      refine ⟨_, rfl, a, _, dx, _, _, rfl, ha, T.C_Slip, T.n_Slip_kind, rfl, _, rfl, c, _, dy, _, _, rfl, hc, T.C_Slip, T.n_Slip_kind, rfl, rfl, _, rfl, ifB (fun e0 => ?_) (fun e => no (by unfold sameS; rw [← d0, e]; rfl))⟩
      refine ⟨_, rfl, a, _, dx, _, _, rfl, ha, T.C_Slip, T.n_Slip_turn, rfl, _, rfl, c, _, dy, _, _, rfl, hc, T.C_Slip, T.n_Slip_turn, rfl, rfl, _, rfl, ifB (fun e1 => ?_) (fun e => no (by unfold sameS; rw [← d0, e0, ← d1, e]; rfl))⟩
      refine ⟨_, rfl, a, _, dx, _, _, rfl, ha, T.C_Slip, T.n_Slip_machine, rfl, _, rfl, c, _, dy, _, _, rfl, hc, T.C_Slip, T.n_Slip_machine, rfl, rfl, _, rfl, ifB (fun e2 => ?_) (fun e => no (by unfold sameS; rw [← d0, e0, ← d1, e1, ← d2, e]; rfl))⟩
      refine ⟨_, rfl, a, _, dx, _, _, rfl, ha, T.C_Slip, T.n_Slip_lane, rfl, _, rfl, c, _, dy, _, _, rfl, hc, T.C_Slip, T.n_Slip_lane, rfl, rfl, ?_⟩
      have qq : sameS k t m l k' t' m' l' = decide (V.int l = V.int l') := by unfold sameS; rw [← d0, e0, ← d1, e1, ← d2, e2, ← d3]; rfl
      rw [qq] at q
      exact q
    · exact ⟨_, rfl, _, _, _, _, _, rfl, .own _, ty, T.I_Slip.bt bt, _, rfl, ifF rfl q⟩

theorem eraseIdx_map' {α β : Type} (f : α → β) : ∀ (l : List α) (i : Nat), (l.map f).eraseIdx i = (l.eraseIdx i).map f
  | [], _ => rfl
  | _ :: _, 0 => rfl
  | a :: l, i + 1 => congrArg (f a :: ·) (eraseIdx_map' f l i)
/-- the items of a list in a drawn order -/
def spMixed : Sp := fun vs H Q _ => ∃ (b L : Addr) (ns : List Int), vs = [.ref b, .ref L] ∧ Box H b ∧ L ≠ b ∧ H L = some (.lst (ns.map V.int)) ∧ ns.length ≤ 100 ∧
  ∀ (M : Addr) (ms : List Int) (H' : Hp), ms.length = ns.length → (∀ m ∈ ms, m ∈ ns) → M ≠ b → H' M = some (.lst (ms.map V.int)) → H M = none → Box H' b → But b H H' → Q (.ref M) H'
theorem ok_mixed (T : Txt K mg) : FnOk P w K mg base CX0 2 T.a__law_mixed T.d__law_mixed ["_law_box_here", "_law_items"] spMixed := by
  have G__law_take : FnOk P w K mg base CX0 1 T.a__law_take T.d__law_take ["_law_box_here", "_law_many"] spTake := ok_take T
  refine T.F__law_mixed.ok sc__law_mixed (fun vs H Q E h => ?_) (fun cdv A outer s H vs Q E hr h => ?_)
  · obtain ⟨b, L, ns, rfl, _⟩ := h
    rfl
  · obtain ⟨b, L, ns, rfl, hB, hne, hL, hl, k⟩ := h
    have nd := sc__law_mixed.nd
    refine ⟨_, (pss_cons (ps_par (i := 2) (j := 3) (by rfl) nd rfl rfl (by decide) rfl rfl (pa_cons (pe_callTy call_list_of (by rfl) T.z_list (by decide +kernel) (pa_cons (pv 1) pa_nil)) (pa_cons (pe_lst pa_nil) pa_nil)) (by rfl))
    (pss_cons (ps_for PassesOwn.never rfl (pi_range1 (by rfl) T.z_range (pa_cons (pe_callB call_len_seq (by rfl) T.z_len (by decide +kernel) (pa_cons (pv 2) pa_nil)) pa_nil)) (pg_name (i := 4) nd rfl (Or.inl rfl))
    (pss_one (ps_expr (pe_bm PySem.F.plainAttrs_list PySem.F.slot_list_append PySem.F.type_list_append mt_append (pv 3) (pa_cons (pe_bm PySem.F.plainAttrs_list PySem.F.slot_list_pop PySem.F.type_list_pop mt_popAt (pv 2) (pa_cons (pe_call G__law_take (hr.mono (by first | decide | omega)) (by rfl) T.m__law_take T.k__law_take T.b__law_take .nil pass0 (pa_cons (pv 0) (pa_cons (pe_callB call_len_seq (by rfl) T.z_len (by decide +kernel) (pa_cons (pv 2) pa_nil)) pa_nil))) pa_nil)) pa_nil)))))
    (pss_one (ps_ret (pv 3))))), ?_⟩
    refine ⟨_, rfl, L, _, rfl, .inl (SqL.of hL), fun A1 n1 => ?_⟩
    refine ⟨szL (Nat.le_of_ble_eq_true rfl), fun A2 n2 => ?_⟩
    refine ⟨_, _, rfl, ?_⟩
    have nA2 : H A2 = none := (same_new n1).free n2
    have nb1 : A1 ≠ b := hB.ne_none n1
    have nb2 : A2 ≠ b := hB.ne_none nA2
    have h12 : A1 ≠ A2 := by
      rintro rfl
      rw [upd_same] at n2
      cases n2
    refine ⟨_, rfl, A1, _, rfl, .inl (SqL.of (by rw [upd_ne h12]; exact upd_same)), (ns.length : Int), by rw [List.length_map], by omega, by omega, ?_⟩
    refine for_range (fun i σ H2 => ∃ (y4 : Option V) (xs1 xs2 : List Int), σ = [some (.ref b), some (.ref L), some (.ref A1), some (.ref A2), y4] ∧ H2 A1 = some (.lst (xs1.map V.int)) ∧ H2 A2 = some (.lst (xs2.map V.int)) ∧
        xs2.length = i ∧ xs1.length + i = ns.length ∧ (∀ m ∈ xs1, m ∈ ns) ∧ (∀ m ∈ xs2, m ∈ ns) ∧ Box H2 b ∧ But b H H2)
      ⟨none, ns, [], rfl, by rw [upd_ne h12]; exact upd_same, upd_same, rfl, by omega, fun m h => h, (fun m h => nomatch h), (hB.same (same_new n1)).same (same_new n2), (But.of_same (same_new n1)).trans (But.of_same (same_new n2))⟩ (fun i σ H2 hi hP => ?_) (fun σ H2 hP => ?_)
    · obtain ⟨y4, xs1, xs2, rfl, h1, h2, l2, l1, i1, i2, B2, k2⟩ := hP
      have hi' : i < ns.length := by omega
      refine ⟨_, rfl, .inl ⟨rfl, _, SqL.of h2⟩, _, rfl, .inl ⟨rfl, _, SqL.of h1⟩, _, rfl, _, rfl, A1, _, rfl, .inl (SqL.of h1), b, _, rfl, B2, by rw [List.length_map]; omega, by rw [List.length_map]; omega, fun r H3 r0 r1 B3 k3 => ?_⟩
      rw [List.length_map] at r1
      have hr : r.toNat < xs1.length := by omega
      refine ⟨A1, _, r, r.toNat, _, rfl, rfl, k3 _ _ nb1 h1, by omega, by omega, by rw [List.length_map]; exact seqIndex_of r0 r1, by rw [List.getElem?_map, List.getElem?_eq_getElem hr]; rfl, ?_⟩
      refine ⟨A2, _, _, rfl, rfl, by rw [upd_ne h12.symm]; exact k3 _ _ nb2 h2, by rw [List.length_map]; exact szl (by omega), ?_⟩
      refine ⟨_, xs1.eraseIdx r.toNat, xs2 ++ [xs1[r.toNat]], rfl, ?_, by rw [upd_same, List.map_append]; rfl, by rw [List.length_append, l2]; rfl, ?_, fun m h => i1 m (List.mem_of_mem_eraseIdx h), fun m h => ?_, box_ne (box_ne B3 nb1) nb2, but_new (but_new (k2.trans k3) n1) nA2⟩
      · rw [upd_ne h12, upd_same, eraseIdx_map']
      · rw [List.length_eraseIdx]
        rw [if_pos hr]
        omega
      · rcases List.mem_append.mp h with h | h
        · exact i2 m h
        · rw [List.mem_singleton] at h
          subst h
          exact i1 _ (List.getElem_mem hr)
    · obtain ⟨y4, xs1, xs2, rfl, h1, h2, l2, l1, i1, i2, B2, k2⟩ := hP
      exact ⟨_, rfl, k A2 xs2 H2 (by omega) i2 nb2 h2 nA2 B2 k2⟩
/-- the arguments of a drawn slip -/
def spDrawn : Sp := fun vs H Q _ => ∃ (b : Addr), vs = [.ref b] ∧ Box H b ∧
  ∀ (p : Addr) (k : Str) (t m l : Int) (H' : Hp), k ∈ kinds → 0 ≤ t → t < 10 ^ 9 → 0 ≤ m → m < 10 ^ 9 → 0 ≤ l → l < 10 ^ 9 → p ≠ b → H p = none → H' p = some (.tup [.str k, .int t, .int m, .int l]) → Box H' b → But b H H' → Q (.ref p) H'
theorem ok_drawn (T : Txt K mg) : FnOk P w K mg base CX0 3 T.a__law_drawn T.d__law_drawn ["_law_box_here"] spDrawn := by
  have G__law_take : FnOk P w K mg base CX0 1 T.a__law_take T.d__law_take ["_law_box_here", "_law_many"] spTake := ok_take T
  have G__law_pick : FnOk P w K mg base CX0 2 T.a__law_pick T.d__law_pick ["_law_box_here", "_law_items"] spPick := ok_pick T
  refine T.F__law_drawn.ok sc__law_drawn (fun vs H Q E h => ?_) (fun cdv A outer s H vs Q E hr h => ?_)
  · obtain ⟨b, rfl, _⟩ := h
    rfl
  · obtain ⟨b, rfl, hB, k⟩ := h
    have nd := sc__law_drawn.nd
    refine ⟨_, (pss_cons (ps_setLc (i := 1) (own := [("_law_turn", 2)]) (g := (gName 2)) (by rfl) nd rfl rfl (sw_true rfl rfl rfl (by decide +kernel)) (pi_range1 (by rfl) T.z_range (pa_cons pe_int pa_nil)) (blkOk_by (N := ["_law_box_here", "_law_some", "_law_turn"]) (sc := defScope s__law_drawn) (own := [("_law_turn", 2)]) (by decide +kernel)) (fun _ _ _ _ _ => by exact (pg_name (i := 2) nd rfl (Or.inl rfl))) (fun _ _ _ _ _ => by exact pts_nil) (fun _ _ _ _ _ => by exact (pe_call G__law_take (hr.mono (by first | decide | omega)) (by rfl) T.m__law_take T.k__law_take T.b__law_take .nil pass0 (pa_cons (pv 0) (pa_cons (pe_call G__law_pick (hr.mono (by first | decide | omega)) (by rfl) T.m__law_pick T.k__law_pick T.b__law_pick .nil pass0 (pa_cons (pv 0) (pa_cons (pe_lst (pa_cons pe_int (pa_cons pe_int (pa_cons (pe_op op_pow pe_int pe_int) pa_nil)))) pa_nil))) pa_nil)))))
    (pss_one (ps_ret (pe_tup (pa_cons (pe_call G__law_pick (hr.mono (by first | decide | omega)) (by rfl) T.m__law_pick T.k__law_pick T.b__law_pick .nil pass0 (pa_cons (pv 0) (pa_cons (pe_lst (pa_cons pe_str (pa_cons pe_str pa_nil))) pa_nil))) (pa_cons (pe_ix ix_list (pv 1) pe_int (fun _ _ => rfl)) (pa_cons (pe_ix ix_list (pv 1) pe_int (fun _ _ => rfl)) (pa_cons (pe_ix ix_list (pv 1) pe_int (fun _ _ => rfl)) pa_nil)))))))), ?_⟩
    refine ⟨3, rfl, by decide, by decide, fun D hD => lc_range (fun i H3 => ∃ acc : List Int, H3 D = some (.lst (acc.map V.int)) ∧ acc.length = i ∧ (∀ m ∈ acc, 0 ≤ m ∧ m < 10 ^ 9) ∧ Box H3 b ∧ But b H H3)
      ⟨[], upd_same, rfl, (fun m h => nomatch h), hB.same (same_new hD), But.of_same (same_new hD)⟩ (fun i H3 hi hP => ?_) (fun H3 hP => ?_)⟩
    · obtain ⟨acc, hA, hl, ha, B3, k3⟩ := hP
      have neD := hB.ne_none hD
      refine ⟨rfl, _, rfl, _, rfl, ?_⟩
      repeat walk_at "st"
      refine ⟨szL (Nat.le_of_ble_eq_true rfl), fun L nL => ?_⟩
      refine ⟨b, L, _, rfl, B3.same (same_new nL), B3.ne_none nL, upd_same, by simp, by simp, fun v H4 hv B4 k4 => ?_⟩
      obtain ⟨m, rfl, m0, m1⟩ : ∃ m, v = .int m ∧ 0 < m ∧ m ≤ 10 ^ 9 := by
        simp only [List.mem_cons, List.not_mem_nil, or_false] at hv
        rcases hv with h | h | h <;> exact ⟨_, h, by decide, by decide⟩
      refine ⟨b, m, rfl, B4, m0, by omega, fun r H5 r0 r1 B5 k5 => ?_⟩
      have kk : But b H3 H5 := ((But.of_same (same_new nL)).trans k4).trans k5
      refine ⟨acc.map V.int, kk _ _ neD hA, szl (by rw [List.length_map]; omega), acc ++ [r], by rw [upd_same, List.map_append]; rfl, by rw [List.length_append, hl]; rfl, fun m h => ?_, box_ne B5 neD, but_new (k3.trans kk) hD⟩
      rcases List.mem_append.mp h with h | h
      · exact ha m h
      · rw [List.mem_singleton] at h
        subst h
        exact ⟨r0, by omega⟩
    · obtain ⟨acc, hA, hl, ha, B3, k3⟩ := hP
      have neD := hB.ne_none hD
      obtain ⟨t, m, l, rfl⟩ : ∃ t m l, acc = [t, m, l] := by
        match acc, hl with
        | [t, m, l], _ => exact ⟨t, m, l, rfl⟩
      have a0 := ha t (by simp)
      have a1 := ha m (by simp)
      have a2 := ha l (by simp)
      refine ⟨_, rfl, szL (Nat.le_of_ble_eq_true rfl), fun L nL => ?_⟩
      refine ⟨b, L, _, rfl, B3.same (same_new nL), B3.ne_none nL, upd_same, by simp, by simp, fun v H4 hv B4 k4 => ?_⟩
      obtain ⟨kd, rfl, hk⟩ : ∃ x, v = .str x ∧ x ∈ kinds := by
        simp only [List.mem_cons, List.not_mem_nil, or_false] at hv
        rcases hv with h | h <;> exact ⟨_, h, by decide⟩
      have k04 : But b H H4 := (k3.trans (But.of_same (same_new nL))).trans k4
      have hD4 : H4 D = some (.lst [.int t, .int m, .int l]) := k4 _ _ neD (same_new nL _ _ hA)
      refine ⟨_, rfl, _, _, _, _, rfl, rfl, SqL.of hD4, rfl, ?_⟩
      refine ⟨_, rfl, _, _, _, _, rfl, rfl, SqL.of hD4, rfl, ?_⟩
      refine ⟨_, rfl, _, _, _, _, rfl, rfl, SqL.of hD4, rfl, ?_⟩
      refine ⟨szL (Nat.le_of_ble_eq_true rfl), fun p np => ?_⟩
      have np0 : H p = none := by
        cases e : H p with
        | none => rfl
        | some o =>
          have := k04 p o (B4.ne_none np) e
          rw [np] at this
          cases this
      exact k p kd t m l _ hk a0.1 a0.2 a1.1 a1.2 a2.1 a2.2 (B4.ne_none np) np0 upd_same (B4.same (same_new np)) (k04.trans (But.of_same (same_new np)))

def ansV (v0 v1 v2 v3 : V) : V := match dueV v0 v1 v2 v3 with
  | .non => .str "made"
  | v => v
theorem rix_any {tl : Addr} {xs : List V} {i : Int} {v : V} {H : Hp} {Q : VK} (h : SqL K H tl xs ∨ SqT K H tl xs) (e : atI xs i = some v) (q : Q v H) : rIx K (.ref tl) (.int i) H Q := by
  rcases h with h | h
  · exact .inl ⟨_, _, _, _, rfl, rfl, h, e, q⟩
  · exact .inr (.inl ⟨_, _, _, _, rfl, rfl, h, e, q⟩)
/-- how the arguments in a list or tuple are refused -/
def spDue (K : PySem.W.Frag) : Sp := fun vs H Q _ => ∃ (b tl : Addr) (v0 v1 v2 v3 : V), vs = [.ref tl] ∧ (SqL K H tl [v0, v1, v2, v3] ∨ SqT K H tl [v0, v1, v2, v3]) ∧ Sh b H v0 ∧ Sh b H v1 ∧ Sh b H v2 ∧ Sh b H v3 ∧ ∀ H', Same H H' → Q (ansV v0 v1 v2 v3) H'
def t_suite (K : PySem.W.Frag) (CI CR CL CT : Addr) : Addr → Value → Option Addr → TS := fun a cls d =>
  tAsg (tIf (tAnd (tB (tCB (rIsX K a cls d CI) (tCons (tVar 2) (tCons (tC (.ref CR)) tNil)))) (tNot (tB (tCB (rIsXT K a cls d CI) (tCons (tVar 2) (tCons (tTup (tCons (tC (.ref CL)) (tCons (tC (.ref CT)) tNil))) tNil)))))) (tXf a cls d CI "word" (tVar 2)) (tC (.str "other"))) (gName 1)
def t_body (K : PySem.W.Frag) (CI CS : Addr) : WX → TS := fun W => tDrop (tMakeS CS (spInit CI CS) (WE W) (tCons (tOp (rIx K) (tVar 0) (tC (.int 0))) (tCons (tOp (rIx K) (tVar 0) (tC (.int 1))) (tCons (tOp (rIx K) (tVar 0) (tC (.int 2))) (tCons (tOp (rIx K) (tVar 0) (tC (.int 3))) tNil)))))
theorem ok_refused (T : Txt K mg) : FnOk P w K mg base CX0 6 T.a__law_refused T.d__law_refused ["_law_some"] (spDue K) := by
  have GI : FnOk P w K mg base (L2.CX P w) 4 T.a_Slip___init__ T.d_Slip___init__ ["self", "kind", "turn", "machine", "lane"] (spInit T.c_InvalidSlip T.c_Slip) := ok_init T
  refine T.F__law_refused.ok sc__law_refused (fun vs H Q E h => ?_) (fun cdv A outer s H vs Q E hr h => ?_)
  · obtain ⟨b, tl, v0, v1, v2, v3, rfl, _⟩ := h
    rfl
  · obtain ⟨b, tl, v0, v1, v2, v3, rfl, htl, s0, s1, s2, s3, k⟩ := h
    have nd := sc__law_refused.nd
    refine ⟨_, pss_cons (ps_set (i := 1) nd rfl (Or.inl rfl) pe_str)
      (pss_cons (ps_try_as (i := 2) (tb := t_body K T.c_InvalidSlip T.c_Slip) (ts := t_suite K T.c_InvalidSlip T.c_RingError T.c_InvalidLane T.c_InvalidRows) (Wout := fun _ _ _ _ => False) rfl rfl nd rfl rfl ⟨rfl, by decide, Or.inl T.m_InvalidSlip⟩ takes0
        (fun W pn xe tk _ => pss_one (ps_expr (by exact (pe_makeS T.M_Slip GI (hr.mono (by decide)) rfl T.m_Slip T.b_Slip___init__ tk (by exact (pa_cons (pe_ix ix_seq (pv 0) pe_int (fun _ _ => rfl)) (pa_cons (pe_ix ix_seq (pv 0) pe_int (fun _ _ => rfl)) (pa_cons (pe_ix ix_seq (pv 0) pe_int (fun _ _ => rfl)) (pa_cons (pe_ix ix_seq (pv 0) pe_int (fun _ _ => rfl)) pa_nil)))))))))
        (fun a oe cls d pn hz hf => pss_one (ps_set (i := 1) nd rfl (Or.inl rfl) (by exact (pe_ifExp (PW.pt (pw_and (pt_val (pe_callB (call_isX T.X_InvalidSlip hz hf) (by rfl) T.z_isinstance (by decide +kernel) (pa_cons (pv 2) (pa_cons (pe_glob rfl T.m_RingError (rel_ref _)) pa_nil))))
          (pw_and1 (pt_not (pt_val (pe_callB (call_isXT T.X_InvalidSlip hz hf) (by rfl) T.z_isinstance (by decide +kernel) (pa_cons (pv 2) (pa_cons (pe_tup (pa_cons (pe_glob rfl T.m_InvalidLane (rel_ref _)) (pa_cons (pe_glob rfl T.m_InvalidRows (rel_ref _)) pa_nil))) pa_nil))))))))
          (pe_xf T.f_InvalidSlip T.n_InvalidSlip hz hf (pv 2)) pe_str)))))
      (pss_one (ps_ret (pv 1)))), ?_⟩
    refine ⟨_, rfl, rix_any htl rfl ?_⟩
    refine ⟨_, rfl, rix_any htl rfl ?_⟩
    refine ⟨_, rfl, rix_any htl rfl ?_⟩
    refine ⟨_, rfl, rix_any htl rfl ?_⟩
    refine fun x dx nx ndx ne => ?_
    have sm : Same H (upd (upd H dx (.own x)) x (.ins T.c_Slip dx [])) := fun a o e => by
      rw [upd_ne (ne_of_none e nx), upd_ne (ne_of_none e ndx)]
      exact e
    refine ⟨x, dx, b, v0, v1, v2, v3, rfl, upd_same, s0.but (But.of_same sm), s1.but (But.of_same sm), s2.but (But.of_same sm), s3.but (But.of_same sm), fun hn => ⟨rfl, ?_⟩, fun s hs d hd => ?_⟩
    · have ea : ansV v0 v1 v2 v3 = .str "made" := by unfold ansV; rw [hn]
      rw [ea] at k
      exact ⟨_, rfl, k _ (same_lst sm nx)⟩
    · have ea : ansV v0 v1 v2 v3 = .str s := by unfold ansV; rw [hs]
      rw [ea] at k
      have sd := sm.trans (same_new (o := .xd [("word", .str s)]) hd)
      refine ⟨true, T.e_InvalidSlip, fun _ a ha => ?_, fun q => Bool.noConfusion q⟩
      refine ⟨_, rfl, _, _, true, d, _, rfl, .own _, rfl, rfl, upd_same, T.kit_InvalidSlip_RingError, _, rfl, iteT ?_⟩
      refine ⟨_, rfl, szL (Nat.le_of_ble_eq_true rfl), fun tp ntp => ?_⟩
      have hd2 : ∀ o, upd (upd (upd (upd H dx (.own x)) x (.ins T.c_Slip dx [])) d (.xd [("word", .str s)])) tp o d = some (.xd [("word", .str s)]) := fun o => by
        rw [upd_ne (ne_of_none upd_same ntp)]
        exact upd_same
      refine ⟨tp, _, _, false, d, _, rfl, upd_same, .cons (.own _) (.cons (.own _) .nil), rfl, rfl, hd2 _, kitAny_cons T.kit_InvalidSlip_InvalidLane (fun _ => kitAny_cons T.kit_InvalidSlip_InvalidRows (fun _ => kitAny_nil) (fun q => Bool.noConfusion q)) (fun q => Bool.noConfusion q), _, rfl, ?_⟩
      refine ifT rfl ?_
      refine ⟨_, rfl, rfl, rfl, d, _, .str s, rfl, hd2 _, look1, ?_⟩
      exact ⟨_, rfl, k _ (sd.trans (same_new ntp))⟩

/-! small data -/
theorem small_int {i : Int} (h0 : 0 ≤ i) (h1 : i < 10 ^ 9) : i.natAbs.log2 < 1920 ∧ (Str.ofString (toString i)).length ≤ 13 ∧ PyData.weight (.int i) ≤ 31 := by
  have hn : i.natAbs < 10 ^ 9 := by omega
  have h2 : i.natAbs.log2 < 30 := by
    by_cases z : i.natAbs = 0
    · rw [z]; decide
    · exact (Nat.log2_lt z).mpr (by omega)
  refine ⟨by omega, ?_, ?_⟩
  · have e := int_text_length_le10 (k := 9) (by decide) hn
    rw [PySem.ofString_length]
    omega
  · unfold PyData.weight
    split
    · omega
    · omega
structure Shows (d : PyData) : Prop where
  sh : d.showable = true
  nd : d.hasDict = false
  dp : d.depth ≤ 60
  ln : d.shown.length ≤ sizeLine
  lay : d.canLay0 = true
theorem shows_slip {k : Str} {t m l : Int} (hk : k ∈ kinds) (t0 : 0 ≤ t) (t1 : t < 10 ^ 9) (m0 : 0 ≤ m) (m1 : m < 10 ^ 9) (l0 : 0 ≤ l) (l1 : l < 10 ^ 9) : Shows (.tuple [.str k, .int t, .int m, .int l]) := by
  obtain ⟨ta, tb, tc⟩ := small_int t0 t1
  obtain ⟨ma, mb, mc⟩ := small_int m0 m1
  obtain ⟨la, lb, lc⟩ := small_int l0 l1
  have kk : PyData.canLay0 (.str k) = true ∧ PyData.leavesShort 13 (.str k) = true ∧ PyData.weight (.str k) ≤ 5 := by
    simp only [kinds, List.mem_cons, List.not_mem_nil, or_false] at hk
    rcases hk with h | h <;> (subst h; exact ⟨by decide +kernel, by decide +kernel, by decide +kernel⟩)
  obtain ⟨ka, kb, kc⟩ := kk
  have cl : PyData.canLay0 (.tuple [.str k, .int t, .int m, .int l]) = true := by
    show (PyData.canLay0 (.str k) && (true && (true && (true && true)))) = true
    rw [ka]; rfl
  refine ⟨?_, PyData.hasDict_of_canLay _ cl, by show max 0 (max 0 (max 0 (max 0 0))) + 1 ≤ 60; decide, ?_, cl⟩
  · show (true && (decide (t.natAbs.log2 < 1920) && (decide (m.natAbs.log2 < 1920) && (decide (l.natAbs.log2 < 1920) && true)))) = true
    rw [decide_eq_true ta, decide_eq_true ma, decide_eq_true la]; rfl
  · have h := PyData.shown_le 13 (by decide) (.tuple [.str k, .int t, .int m, .int l]) (by
      show (PyData.leavesShort 13 (.str k) && (decide ((Str.ofString (toString t)).length ≤ 13) && (decide ((Str.ofString (toString m)).length ≤ 13) && (decide ((Str.ofString (toString l)).length ≤ 13) && true)))) = true
      rw [kb, decide_eq_true tb, decide_eq_true mb, decide_eq_true lb]; rfl)
    have w : PyData.weight (.tuple [.str k, .int t, .int m, .int l]) = PyData.weight (.str k) + 1 + (PyData.weight (.int t) + 1 + (PyData.weight (.int m) + 1 + (PyData.weight (.int l) + 1 + 0))) := rfl
    have e := sizeLine_eq
    omega
theorem shows_bools (b c : Bool) : Shows (.list [.bool b, .bool c]) := by
  cases b <;> cases c <;> exact ⟨by decide +kernel, by decide +kernel, by decide +kernel, by decide +kernel, by decide +kernel⟩
theorem Shows.shaped {d : PyData} (h : Shows d) : SeqAt.shaped d = true := by
  unfold SeqAt.shaped
  rw [h.lay, decide_eq_true (Nat.le_trans h.dp (by decide))]; rfl
theorem eqv_slip (k : Str) (t m l : Int) (k' : Str) (t' m' l' : Int) : PyData.eqv (.tuple [.str k, .int t, .int m, .int l]) (.tuple [.str k', .int t', .int m', .int l']) = sameS k t m l k' t' m' l' := by
  simp [PyData.eqv, PyData.eqvAll, sameS]
theorem same_self (k : Str) (t m l : Int) : sameS k t m l k t m l = true := by simp [sameS]
theorem due_ok {k : Str} {t m l : Int} (hk : k ∈ kinds) (t0 : 0 ≤ t) (m0 : 0 ≤ m) (l0 : 0 ≤ l) : dueV (.str k) (.int t) (.int m) (.int l) = .non := by
  have h0 : isOne kinds (.str k) = true := by
    show kinds.any (· == k) = true
    rw [List.any_eq_true]
    exact ⟨k, hk, by simp⟩
  unfold dueV
  rw [if_neg (by simp [h0]), if_neg (by show ¬ decide (0 ≤ t) = false; rw [decide_eq_true t0]; simp), if_neg (by show ¬ decide (0 ≤ m) = false; rw [decide_eq_true m0]; simp), if_neg (by show ¬ decide (0 ≤ l) = false; rw [decide_eq_true l0]; simp)]
theorem same_ins {H : Hp} {x dx : Addr} {o1 o2 o3 : HO} (nx : H x = none) (ndx : H dx = none) : Same H (upd (upd (upd H dx o1) x o2) x o3) := fun a o e => by
  rw [upd_ne (ne_of_none e nx), upd_ne (ne_of_none e nx), upd_ne (ne_of_none e ndx)]
  exact e
/-- a list of values of which none is right -/
def Bad (P : V → Bool) (b : Addr) (H : Hp) (B : Addr) : Prop := ∃ xs, B ≠ b ∧ H B = some (.lst xs) ∧ 0 < xs.length ∧ xs.length < 1000 ∧ ∀ v ∈ xs, Sh b H v ∧ P v = false
theorem Bad.but {P : V → Bool} {b : Addr} {H H' : Hp} {B : Addr} (h : Bad P b H B) (k : But b H H') : Bad P b H' B := by
  obtain ⟨xs, n, e, l0, l1, q⟩ := h
  exact ⟨xs, n, k _ _ n e, l0, l1, fun v hv => ⟨(q v hv).1.but k, (q v hv).2⟩⟩
theorem Bad.set {P : V → Bool} {b D : Addr} {H : Hp} {B : Addr} {xs ys : List V} (h : Bad P b H B) (n : B ≠ D) (e : H D = some (.lst xs)) : Bad P b (upd H D (.lst ys)) B := by
  obtain ⟨zs, m, e2, l0, l1, q⟩ := h
  exact ⟨zs, m, by rw [upd_ne n]; exact e2, l0, l1, fun v hv => ⟨(q v hv).1.set e, (q v hv).2⟩⟩
def words : List V := [.str "kind", .str "turn", .str "machine", .str "lane"]
/-- the list of lists of wrong values -/
def Bads (b : Addr) (H : Hp) (A : Addr) : Prop := A ≠ b ∧ ∃ B0 B1 B2 B3, H A = some (.lst [.ref B0, .ref B1, .ref B2, .ref B3]) ∧ Bad (isOne kinds) b H B0 ∧ Bad numOk b H B1 ∧ Bad numOk b H B2 ∧ Bad numOk b H B3
theorem Bads.but {b : Addr} {H H' : Hp} {A : Addr} (h : Bads b H A) (k : But b H H') : Bads b H' A := by
  obtain ⟨n, B0, B1, B2, B3, e, h0, h1, h2, h3⟩ := h
  exact ⟨n, B0, B1, B2, B3, k _ _ n e, h0.but k, h1.but k, h2.but k, h3.but k⟩
theorem dp_slip {K : PySem.W.Frag} {H : Hp} {q : Addr} {k : Str} {t m l : Int} (h : H q = some (.tup [.str k, .int t, .int m, .int l])) : Dp K H (.ref q) (.tuple [.str k, .int t, .int m, .int l]) :=
  .tup (SqT.of h) (.cons (.str _) (.cons (.int _) (.cons (.int _) (.cons (.int _) .nil))))
theorem cut_some {ms : List Int} {r : Int} (hl : ms.length = 4) (r0 : 0 ≤ r) (r1 : r < 2) : ∃ ss : List Int, cutV (ms.map V.int) none (some (1 + r)) = ss.map V.int ∧ ss ≠ [] ∧ ss.length ≤ 4 ∧ ∀ x ∈ ss, x ∈ ms := by
  match ms, hl with
  | [a, b, c, d], _ =>
    rcases (show r = 0 ∨ r = 1 by omega) with rfl | rfl
    · exact ⟨[a], rfl, by simp, by simp, fun x h => by simp at h; simp [h]⟩
    · exact ⟨[a, b], rfl, by simp, by simp, fun x h => by simp at h; rcases h with h | h <;> simp [h]⟩
theorem due_spoilt {v0 v1 v2 v3 : V} {ss : List Int} {mn : Int} (hin : ∀ m ∈ ss, m = 0 ∨ m = 1 ∨ m = 2 ∨ m = 3) (e0 : isOne kinds v0 = !ss.contains 0) (e1 : numOk v1 = !ss.contains 1) (e2 : numOk v2 = !ss.contains 2) (e3 : numOk v3 = !ss.contains 3)
    (h : mn ∈ ss) (hall : ∀ n ∈ ss, mn ≤ n) : ∃ x, atI words mn = some (.str x) ∧ ansV v0 v1 v2 v3 = .str x := by
  have no : ∀ k : Int, k < mn → ss.contains k = false := fun k hk => by
    cases c : ss.contains k with
    | false => rfl
    | true =>
      have := hall k (by simpa using c)
      omega
  have yes : ss.contains mn = true := by simpa using h
  rcases hin mn h with rfl | rfl | rfl | rfl
  · rw [yes] at e0
    exact ⟨"kind", rfl, by unfold ansV dueV; rw [if_pos (by simp [e0])]⟩
  · rw [no 0 (by decide)] at e0
    rw [yes] at e1
    exact ⟨"turn", rfl, by unfold ansV dueV; rw [if_neg (by simp [e0]), if_pos (by simp [e1])]⟩
  · rw [no 0 (by decide)] at e0
    rw [no 1 (by decide)] at e1
    rw [yes] at e2
    exact ⟨"machine", rfl, by unfold ansV dueV; rw [if_neg (by simp [e0]), if_neg (by simp [e1]), if_pos (by simp [e2])]⟩
  · rw [no 0 (by decide)] at e0
    rw [no 1 (by decide)] at e1
    rw [no 2 (by decide)] at e2
    rw [yes] at e3
    exact ⟨"lane", rfl, by unfold ansV dueV; rw [if_neg (by simp [e0]), if_neg (by simp [e1]), if_neg (by simp [e2]), if_pos (by simp [e3])]⟩
theorem ok_good {k : Str} {t m l : Int} (hk : k ∈ kinds) (t0 : 0 ≤ t) (m0 : 0 ≤ m) (l0 : 0 ≤ l) : isOne kinds (.str k) = true ∧ numOk (.int t) = true ∧ numOk (.int m) = true ∧ numOk (.int l) = true := due_non (due_ok hk t0 m0 l0)
theorem ans_good {k : Str} {t m l : Int} (hk : k ∈ kinds) (t0 : 0 ≤ t) (m0 : 0 ≤ m) (l0 : 0 ≤ l) : ansV (.str k) (.int t) (.int m) (.int l) = .str "made" := by
  unfold ansV
  rw [due_ok hk t0 m0 l0]
theorem contains_snoc {ss : List Int} {i : Nat} {m k : Int} (h : ss[i]? = some m) : (ss.take (i + 1)).contains k = ((ss.take i).contains k || (k == m)) := by
  rw [take_snoc h]
  simp [List.contains_eq_any_beq, List.any_append]
  rfl

def spLaw (K : PySem.W.Frag) : Sp := fun vs H Q _ => ∃ (a : Addr) (ns : List Int), vs = [.ref a] ∧ SqL K H a (ns.map V.int) ∧ ns.length ≤ 63 ∧ ∀ H', Q (.bl true) H'
theorem ok_law (T : Txt K mg) : At callerA P w K mg base CX0 7 T.a_law ["_law_script"] T.d_law (spLaw K) := by
  have G__law_take : FnOk P w K mg base CX0 1 T.a__law_take T.d__law_take ["_law_box_here", "_law_many"] spTake := ok_take T
  have G__law_pick : FnOk P w K mg base CX0 2 T.a__law_pick T.d__law_pick ["_law_box_here", "_law_items"] spPick := ok_pick T
  have G__law_box : FnOk P w K mg base CX0 1 T.a__law_box T.d__law_box ["_law_script", "_law_k", "_law_own"] (spBox K) := ok_box T
  have G__law_mixed : FnOk P w K mg base CX0 2 T.a__law_mixed T.d__law_mixed ["_law_box_here", "_law_items"] spMixed := ok_mixed T
  have G__law_drawn : FnOk P w K mg base CX0 3 T.a__law_drawn T.d__law_drawn ["_law_box_here"] spDrawn := ok_drawn T
  have G__law_refused : FnOk P w K mg base CX0 6 T.a__law_refused T.d__law_refused ["_law_some"] (spDue K) := ok_refused T
  have GI_Slip : FnOk P w K mg base CX0 4 T.a_Slip___init__ T.d_Slip___init__ ["self", "kind", "turn", "machine", "lane"] (spInitG T.c_Slip) := ok_initG T
  have R_eq : FnR P w K mg base CX0 1 T.a_Slip___eq__ (spEqS K T.c_Slip) := fnR (ok_eq T) T.b_Slip___eq__
  refine fun_at0 T.F_law sc_law (fun vs H Q E h => ?_) (fun cdv outer s H vs Q E hr h => ?_)
  · obtain ⟨a, ns, rfl, _⟩ := h
    rfl
  · obtain ⟨a, ns, rfl, hS, hlen, k⟩ := h
    have nd := sc_law.nd
    have hgd : (callerA.deeper (envOfC "law" (defScope s_law) s.heap.objs.size T.a_law cdv)).guards = some [] := guards_deeper rfl
    refine ⟨_, (pss_cons (ps_for PassesOwn.never rfl (pi_range1 (by rfl) T.z_range (pa_cons (pe_callB (call_max2 rfl) (by rfl) T.z_max (by decide +kernel) (pa_cons pe_int (pa_cons (pe_callB (call_min2 rfl) (by rfl) T.z_min (by decide +kernel) (pa_cons pe_int (pa_cons (pe_callB call_len_seq (by rfl) T.z_len (by decide +kernel) (pa_cons (pv 0) pa_nil)) pa_nil))) pa_nil))) pa_nil)) (pg_name (i := 1) nd rfl (Or.inl rfl))
    (pss_cons (ps_set (i := 2) nd rfl (Or.inl rfl) (pe_call G__law_box (hr.mono (by first | decide | omega)) (by rfl) T.m__law_box T.k__law_box T.b__law_box .nil pass0 (pa_cons (pv 0) (pa_cons (pv 1) (pa_cons pe_int pa_nil)))))
    (pss_cons (ps_set (i := 3) nd rfl (Or.inl rfl) (pe_lst (pa_cons pe_str (pa_cons pe_str (pa_cons pe_str (pa_cons pe_str pa_nil))))))
    (pss_cons (ps_set (i := 4) nd rfl (Or.inl rfl) (pe_lst (pa_cons (pe_lst (pa_cons pe_str (pa_cons pe_str (pa_cons pe_str (pa_cons pe_non (pa_cons pe_int (pa_cons (pe_lst (pa_cons pe_str pa_nil)) (pa_cons (pe_tup (pa_cons pe_str pa_nil)) (pa_cons pe_bl pa_nil))))))))) pa_nil)))
    (pss_cons (ps_set (i := 4) nd rfl (Or.inl rfl) (pe_op op_cat (pv 4) (pe_lc (own := [("_law_turn", 5)]) (g := (gName 5)) (by rfl) nd (pi_range1 (by rfl) T.z_range (pa_cons pe_int pa_nil)) (blkOk_by (N := ["_law_script", "_law_k", "_law_box_here", "_law_words", "_law_bad", "_law_turn", "_law_one", "_law_other", "_law_made", "_law_rival", "_law_are_one", "_law_given", "_law_spoilt", "_law_at"]) (sc := defScope s_law) (own := [("_law_turn", 5)]) (by decide +kernel)) (fun _ _ _ _ _ => by exact (pg_name (i := 5) nd rfl (Or.inl rfl))) (fun _ _ _ _ _ => by exact pts_nil) (fun _ _ _ _ _ => by exact (pe_lst (pa_cons (pe_un un_neg pe_int) (pa_cons pe_non (pa_cons pe_bl (pa_cons pe_str (pa_cons (pe_lst (pa_cons pe_int pa_nil)) (pa_cons (pe_tup (pa_cons pe_int pa_nil)) pa_nil)))))))))))
    (pss_one (ps_for PassesOwn.never rfl (pi_range1 (by rfl) T.z_range (pa_cons pe_int pa_nil)) (pg_name (i := 5) nd rfl (Or.inl rfl))
    (pss_cons (ps_par (i := 6) (j := 7) (by rfl) nd rfl rfl (by decide) rfl rfl (pa_cons (pe_call G__law_drawn (hr.mono (by first | decide | omega)) (by rfl) T.m__law_drawn T.k__law_drawn T.b__law_drawn .nil pass0 (pa_cons (pv 2) pa_nil)) (pa_cons (pe_call G__law_drawn (hr.mono (by first | decide | omega)) (by rfl) T.m__law_drawn T.k__law_drawn T.b__law_drawn .nil pass0 (pa_cons (pv 2) pa_nil)) pa_nil)) (by rfl))
    (pss_cons (ps_par (i := 8) (j := 9) (by rfl) nd rfl rfl (by decide) rfl rfl (pa_cons (pe_make T.M_Slip GI_Slip (hr.mono (by first | decide | omega)) (by rfl) T.m_Slip T.b_Slip___init__ .nil pass0 (pa_cons (pe_ix ix_tup (pv 6) pe_int (fun _ _ => rfl)) (pa_cons (pe_ix ix_tup (pv 6) pe_int (fun _ _ => rfl)) (pa_cons (pe_ix ix_tup (pv 6) pe_int (fun _ _ => rfl)) (pa_cons (pe_ix ix_tup (pv 6) pe_int (fun _ _ => rfl)) pa_nil))))) (pa_cons (pe_make T.M_Slip GI_Slip (hr.mono (by first | decide | omega)) (by rfl) T.m_Slip T.b_Slip___init__ .nil pass0 (pa_cons (pe_ix ix_tup (pv 7) pe_int (fun _ _ => rfl)) (pa_cons (pe_ix ix_tup (pv 7) pe_int (fun _ _ => rfl)) (pa_cons (pe_ix ix_tup (pv 7) pe_int (fun _ _ => rfl)) (pa_cons (pe_ix ix_tup (pv 7) pe_int (fun _ _ => rfl)) pa_nil))))) pa_nil)) (by rfl))
    (pss_cons (ps_if (pt_cmpR op_ne (pe_callB (call_reprD hr hgd) (by rfl) T.z_repr (by decide +kernel) (pa_cons (pe_tup (pa_cons (pe_fld (pv 8) rfl) (pa_cons (pe_fld (pv 8) rfl) (pa_cons (pe_fld (pv 8) rfl) (pa_cons (pe_fld (pv 8) rfl) pa_nil))))) pa_nil)) (pe_callB (call_reprD hr hgd) (by rfl) T.z_repr (by decide +kernel) (pa_cons (pv 6) pa_nil)) (nomark _)) (pss_one (ps_ret pe_bl)) pss_nil)
    (pss_cons (ps_set (i := 10) nd rfl (Or.inl rfl) (pe_cmpR (op_eqD hr.units) (pv 6) (pv 7) (nomark _)))
    (pss_cons (ps_if (PW.pt (pw_or (pt_cmpR op_ne (pe_callB (call_reprD hr hgd) (by rfl) T.z_repr (by decide +kernel) (pa_cons (pe_lst (pa_cons (pe_cmpR (op_eqO T.O_Slip R_eq (hr.mono (by decide)) pass0) (pv 8) (pv 9) (nomark _)) (pa_cons (pe_cmpR (op_neO T.O_Slip R_eq (hr.mono (by decide)) pass0) (pv 8) (pv 9) (nomark _)) pa_nil))) pa_nil)) (pe_callB (call_reprD hr hgd) (by rfl) T.z_repr (by decide +kernel) (pa_cons (pe_lst (pa_cons (pv 10) (pa_cons (pe_not (pv 10)) pa_nil))) pa_nil)) (nomark _)) (pw_or1 (pt_cmpR (op_eqO T.O_Slip R_eq (hr.mono (by decide)) pass0) (pv 8) (pv 6) (nomark _))))) (pss_one (ps_ret pe_bl)) pss_nil)
    (pss_cons (ps_if (PW.pt (pw_or (pt_cmpR (op_neO T.O_Slip R_eq (hr.mono (by decide)) pass0) (pv 8) (pe_make T.M_Slip GI_Slip (hr.mono (by first | decide | omega)) (by rfl) T.m_Slip T.b_Slip___init__ .nil pass0 (pa_cons (pe_ix ix_tup (pv 6) pe_int (fun _ _ => rfl)) (pa_cons (pe_ix ix_tup (pv 6) pe_int (fun _ _ => rfl)) (pa_cons (pe_ix ix_tup (pv 6) pe_int (fun _ _ => rfl)) (pa_cons (pe_ix ix_tup (pv 6) pe_int (fun _ _ => rfl)) pa_nil))))) (nomark _)) (pw_or1 (pt_cmpR (op_inO T.O_Slip T.N_Slip R_eq (hr.mono (by decide)) pass0) (pv 8) (pe_tup (pa_cons pe_non (pa_cons pe_str (pa_cons (pv 6) pa_nil)))) (by rfl))))) (pss_one (ps_ret pe_bl)) pss_nil)
    (pss_cons (ps_set (i := 11) nd rfl (Or.inl rfl) (pe_callTy call_list_of (by rfl) T.z_list (by decide +kernel) (pa_cons (pv 6) pa_nil)))
    (pss_cons (ps_set (i := 12) nd rfl (Or.inl rfl) (pe_slice sl_list (pe_call G__law_mixed (hr.mono (by first | decide | omega)) (by rfl) T.m__law_mixed T.k__law_mixed T.b__law_mixed .nil pass0 (pa_cons (pv 2) (pa_cons (pe_lst (pa_cons pe_int (pa_cons pe_int (pa_cons pe_int (pa_cons pe_int pa_nil))))) pa_nil))) po_none (po_some (pe_op op_add pe_int (pe_call G__law_take (hr.mono (by first | decide | omega)) (by rfl) T.m__law_take T.k__law_take T.b__law_take .nil pass0 (pa_cons (pv 2) (pa_cons pe_int pa_nil)))))))
    (pss_cons (ps_for PassesOwn.never rfl (pi_list (pv 12)) (pg_name (i := 13) nd rfl (Or.inl rfl))
    (pss_one (ps_asg (pe_call G__law_pick (hr.mono (by first | decide | omega)) (by rfl) T.m__law_pick T.k__law_pick T.b__law_pick .nil pass0 (pa_cons (pv 2) (pa_cons (pe_ix ix_list (pv 4) (pv 13) (fun _ _ => rfl)) pa_nil))) (pg_sub (pv 11) (pv 13) set_list))))
    (pss_one (ps_if (PW.pt (pw_or (pt_cmpR op_ne (pe_call G__law_refused (hr.mono (by first | decide | omega)) (by rfl) T.m__law_refused T.k__law_refused T.b__law_refused .nil pass0 (pa_cons (pv 11) pa_nil)) (pe_ix ix_list (pv 3) (pe_callB (cr_min rfl) (by rfl) T.z_min (by decide +kernel) (pa_cons (pe_lc (own := [("_law_at", 13)]) (g := (gName 13)) (by rfl) nd (pi_list (pv 12)) (blkOk_by (N := ["_law_script", "_law_k", "_law_box_here", "_law_words", "_law_bad", "_law_turn", "_law_one", "_law_other", "_law_made", "_law_rival", "_law_are_one", "_law_given", "_law_spoilt", "_law_at"]) (sc := defScope s_law) (own := [("_law_at", 13)]) (by decide +kernel)) (fun _ _ _ _ _ => by exact (pg_name (i := 13) nd rfl (Or.inl rfl))) (fun _ _ _ _ _ => by exact pts_nil) (fun _ _ _ _ _ => by exact (pe_callTy call_int1 (by rfl) T.z_int (by decide +kernel) (pa_cons (pv 13) pa_nil)))) pa_nil)) (fun _ _ => rfl)) (nomark _)) (pw_or1 (pt_cmpR op_ne (pe_call G__law_refused (hr.mono (by first | decide | omega)) (by rfl) T.m__law_refused T.k__law_refused T.b__law_refused .nil pass0 (pa_cons (pv 6) pa_nil)) pe_str (nomark _))))) (pss_one (ps_ret pe_bl)) pss_nil))))))))))))))))))
    (pss_one (ps_ret (pe_and (pe_cmpR op_eq (pe_call G__law_refused (hr.mono (by first | decide | omega)) (by rfl) T.m__law_refused T.k__law_refused T.b__law_refused .nil pass0 (pa_cons (pe_tup (pa_cons pe_str (pa_cons pe_int (pa_cons pe_int (pa_cons pe_int pa_nil))))) pa_nil)) pe_str (nomark _)) (pe_one (pe_cmpR op_eq (pe_call G__law_refused (hr.mono (by first | decide | omega)) (by rfl) T.m__law_refused T.k__law_refused T.b__law_refused .nil pass0 (pa_cons (pe_tup (pa_cons pe_non (pa_cons pe_non (pa_cons pe_non (pa_cons pe_non pa_nil))))) pa_nil)) pe_str (nomark _))))))), ?_⟩
    refine ⟨_, rfl, _, _, rfl, .inl hS, _, _, rfl, _, _, rfl, _, rfl, ?_, ?_, ?_⟩
    · split <;> split <;> omega
    · split <;> split <;> omega
    refine for_range (fun i σ H2 => ∃ y1 y2 y3 y4 y5 y6 y7 y8 y9 y10 y11 y12 y13, σ = [some (.ref a), y1, y2, y3, y4, y5, y6, y7, y8, y9, y10, y11, y12, y13] ∧ Same H H2)
      ⟨none, none, none, none, none, none, none, none, none, none, none, none, none, rfl, Same.refl _⟩ (fun i σ H2 hi hP => ?_) (fun σ H2 hP => ?_)
    · obtain ⟨y1, y2, y3, y4, y5, y6, y7, y8, y9, y10, y11, y12, y13, rfl, s2⟩ := hP
      have i4 : i < 1000 := by
        revert hi
        split <;> split <;> omega
      refine ⟨_, rfl, _, rfl, a, ns, _, 14, rfl, s2.seq hS, by omega, by omega, by omega, by omega, fun H3 b s3 nb B3 => ?_⟩
      have s03 := s2.trans s3
      have nb0 : H b = none := s2.free nb
      refine ⟨szL (Nat.le_of_ble_eq_true rfl), fun W nW => ?_⟩
      have neW := B3.ne_none nW
      have B4 := B3.same (same_new (o := .lst [.str "kind", .str "turn", .str "machine", .str "lane"]) nW)
      refine ⟨szL (Nat.le_of_ble_eq_true rfl), fun p1 np1 => ?_⟩
      have ne1 := B4.ne_none np1
      have B5 := B4.same (same_new (o := .lst [.str "lost"]) np1)
      refine ⟨szL (Nat.le_of_ble_eq_true rfl), fun p2 np2 => ?_⟩
      have ne2 := B5.ne_none np2
      have B6 := B5.same (same_new (o := .tup [.str "again"]) np2)
      refine ⟨szL (Nat.le_of_ble_eq_true rfl), fun L0 nL0 => ?_⟩
      have neL0 := B6.ne_none nL0
      have B7 := B6.same (same_new (o := .lst [.str "", .str "Lost", .str "twice", .non, .int 0, .ref p1, .ref p2, .bl true]) nL0)
      have bad0 : Bad (isOne kinds) b (upd (upd (upd (upd H3 W (.lst [.str "kind", .str "turn", .str "machine", .str "lane"])) p1 (.lst [.str "lost"])) p2 (.tup [.str "again"])) L0 (.lst [.str "", .str "Lost", .str "twice", .non, .int 0, .ref p1, .ref p2, .bl true])) L0 := by
        refine ⟨_, neL0, upd_same, by simp, by simp, fun v hv => ?_⟩
        have hp2 : upd (upd (upd (upd H3 W (.lst [.str "kind", .str "turn", .str "machine", .str "lane"])) p1 (.lst [.str "lost"])) p2 (.tup [.str "again"])) L0 (.lst [.str "", .str "Lost", .str "twice", .non, .int 0, .ref p1, .ref p2, .bl true]) p2 = some (.tup [.str "again"]) := by
          rw [upd_ne (ne_of_none upd_same nL0)]
          exact upd_same
        have hp1 : upd (upd (upd (upd H3 W (.lst [.str "kind", .str "turn", .str "machine", .str "lane"])) p1 (.lst [.str "lost"])) p2 (.tup [.str "again"])) L0 (.lst [.str "", .str "Lost", .str "twice", .non, .int 0, .ref p1, .ref p2, .bl true]) p1 = some (.lst [.str "lost"]) := by
          rw [upd_ne (ne_of_none (by rw [upd_ne (ne_of_none upd_same np2)]; exact upd_same) nL0), upd_ne (ne_of_none upd_same np2)]
          exact upd_same
        simp only [List.mem_cons, List.not_mem_nil, or_false] at hv
        rcases hv with h | h | h | h | h | h | h | h
        case' inr.inr.inr.inr.inr.inl => subst h; exact ⟨⟨ne1, .inl ⟨_, hp1⟩⟩, rfl⟩
        case' inr.inr.inr.inr.inr.inr.inl => subst h; exact ⟨⟨ne2, .inr ⟨_, hp2⟩⟩, rfl⟩
        all_goals (subst h; exact ⟨trivial, by decide +kernel⟩)
      refine ⟨szL (Nat.le_of_ble_eq_true rfl), fun O nO => ?_⟩
      have neO := B7.ne_none nO
      have B8 := B7.same (same_new (o := .lst [.ref L0]) nO)
      refine ⟨_, rfl, ?_⟩
      refine ⟨3, rfl, by decide, by decide, fun D hD => ?_⟩
      have neD := B8.ne_none hD
      refine lc_range (fun i Hc => ∃ Bs : List Addr, Hc D = some (.lst (Bs.map V.ref)) ∧ Bs.length = i ∧ (∀ B ∈ Bs, B ≠ D ∧ Bad numOk b Hc B) ∧ Box Hc b ∧ But b _ Hc)
        ⟨[], upd_same, rfl, (fun B h => nomatch h), B8.same (same_new hD), But.of_same (same_new hD)⟩ (fun i Hc hi hP => ?_) (fun Hc hP => ?_)
      · obtain ⟨Bs, hDc, hl, hBs, Bc, kc⟩ := hP
        refine ⟨rfl, _, rfl, ?_⟩
        refine ⟨szL (Nat.le_of_ble_eq_true rfl), fun q1 nq1 => ?_⟩
        have neq1 := Bc.ne_none nq1
        have Bc1 := Bc.same (same_new (o := .lst [.int 0]) nq1)
        refine ⟨szL (Nat.le_of_ble_eq_true rfl), fun q2 nq2 => ?_⟩
        have neq2 := Bc1.ne_none nq2
        have Bc2 := Bc1.same (same_new (o := .tup [.int 1]) nq2)
        refine ⟨szL (Nat.le_of_ble_eq_true rfl), fun L nL => ?_⟩
        have neL := Bc2.ne_none nL
        have Bc3 := Bc2.same (same_new (o := .lst [.int (-1), .non, .bl true, .str "0", .ref q1, .ref q2]) nL)
        have kk : But b Hc (upd (upd (upd Hc q1 (.lst [.int 0])) q2 (.tup [.int 1])) L (.lst [.int (-1), .non, .bl true, .str "0", .ref q1, .ref q2])) :=
          ((But.of_same (same_new nq1)).trans (But.of_same (same_new nq2))).trans (But.of_same (same_new nL))
        have hD' := kk _ _ neD hDc
        have neLD : L ≠ D := fun e => by
          have h2 : upd (upd Hc q1 (.lst [.int 0])) q2 (.tup [.int 1]) D = some (.lst (Bs.map V.ref)) := same_new nq2 _ _ (same_new nq1 _ _ hDc)
          rw [e, h2] at nL
          cases nL
        have badL : Bad numOk b (upd (upd (upd Hc q1 (.lst [.int 0])) q2 (.tup [.int 1])) L (.lst [.int (-1), .non, .bl true, .str "0", .ref q1, .ref q2])) L := by
          refine ⟨_, neL, upd_same, by simp, by simp, fun v hv => ?_⟩
          have hp2 : upd (upd (upd Hc q1 (.lst [.int 0])) q2 (.tup [.int 1])) L (.lst [.int (-1), .non, .bl true, .str "0", .ref q1, .ref q2]) q2 = some (.tup [.int 1]) := by
            rw [upd_ne (ne_of_none upd_same nL)]
            exact upd_same
          have hp1 : upd (upd (upd Hc q1 (.lst [.int 0])) q2 (.tup [.int 1])) L (.lst [.int (-1), .non, .bl true, .str "0", .ref q1, .ref q2]) q1 = some (.lst [.int 0]) := by
            rw [upd_ne (ne_of_none (by rw [upd_ne (ne_of_none upd_same nq2)]; exact upd_same) nL), upd_ne (ne_of_none upd_same nq2)]
            exact upd_same
          simp only [List.mem_cons, List.not_mem_nil, or_false] at hv
          rcases hv with h | h | h | h | h | h
          case' inr.inr.inr.inr.inl => subst h; exact ⟨⟨neq1, .inl ⟨_, hp1⟩⟩, rfl⟩
          case' inr.inr.inr.inr.inr => subst h; exact ⟨⟨neq2, .inr ⟨_, hp2⟩⟩, rfl⟩
          all_goals (subst h; exact ⟨trivial, by decide +kernel⟩)
        refine ⟨Bs.map V.ref, hD', szl (by rw [List.length_map]; omega), Bs ++ [L], by rw [upd_same, List.map_append]; rfl, by rw [List.length_append, hl]; rfl, fun B hB => ?_, box_ne Bc3 neD, but_new (kc.trans kk) hD⟩
        rcases List.mem_append.mp hB with h | h
        · exact ⟨(hBs B h).1, ((hBs B h).2.but kk).set (hBs B h).1 hD'⟩
        · rw [List.mem_singleton] at h
          subst h
          exact ⟨neLD, badL.set neLD hD'⟩
      · obtain ⟨Bs, hDc, hl, hBs, Bc, kc⟩ := hP
        obtain ⟨C1, C2, C3, rfl⟩ : ∃ t m l, Bs = [t, m, l] := by
          match Bs, hl with
          | [t, m, l], _ => exact ⟨t, m, l, rfl⟩
        have hO : Hc O = some (.lst [.ref L0]) := kc _ _ neO upd_same
        have k38 := ((((But.of_same (b := b) (same_new (o := .lst words) nW)).trans (But.of_same (same_new (o := .lst [.str "lost"]) np1))).trans (But.of_same (same_new (o := .tup [.str "again"]) np2))).trans (But.of_same (same_new (o := .lst [.str "", .str "Lost", .str "twice", .non, .int 0, .ref p1, .ref p2, .bl true]) nL0))).trans (But.of_same (same_new (o := .lst [.ref L0]) nO))
        have k3c := k38.trans kc
        have bad0c := (bad0.but (But.of_same (same_new (o := .lst [.ref L0]) nO))).but kc
        refine ⟨O, D, _, _, rfl, rfl, hO, hDc, by show 1 + 3 ≤ sizeLine; decide, fun A nA => ?_⟩
        have neA := Bc.ne_none nA
        have kA : But b Hc (upd Hc A (.lst ([V.ref L0] ++ List.map V.ref [C1, C2, C3]))) := But.of_same (same_new nA)
        have BA := Bc.same (same_new (o := .lst ([V.ref L0] ++ List.map V.ref [C1, C2, C3])) nA)
        have hbads : Bads b (upd Hc A (.lst ([V.ref L0] ++ List.map V.ref [C1, C2, C3]))) A := ⟨neA, L0, C1, C2, C3, upd_same, bad0c.but kA, (hBs C1 (by simp)).2.but kA, (hBs C2 (by simp)).2.but kA, (hBs C3 (by simp)).2.but kA⟩
        have hW : upd Hc A (.lst ([V.ref L0] ++ List.map V.ref [C1, C2, C3])) W = some (.lst words) := by
          refine kA _ _ neW (kc _ _ neW ?_)
          rw [upd_ne (ne_of_none (by rw [upd_ne (ne_of_none (by rw [upd_ne (ne_of_none (by rw [upd_ne (ne_of_none upd_same np1)]; exact upd_same) np2), upd_ne (ne_of_none upd_same np1)]; exact upd_same) nL0), upd_ne (ne_of_none (by rw [upd_ne (ne_of_none upd_same np1)]; exact upd_same) np2), upd_ne (ne_of_none upd_same np1)]; exact upd_same) nO),
            upd_ne (ne_of_none (by rw [upd_ne (ne_of_none (by rw [upd_ne (ne_of_none upd_same np1)]; exact upd_same) np2), upd_ne (ne_of_none upd_same np1)]; exact upd_same) nL0), upd_ne (ne_of_none (by rw [upd_ne (ne_of_none upd_same np1)]; exact upd_same) np2), upd_ne (ne_of_none upd_same np1)]
          exact upd_same
        have k3A := k3c.trans kA
        generalize upd Hc A (.lst ([V.ref L0] ++ List.map V.ref [C1, C2, C3])) = HB at kA BA hbads hW k3A
        refine ⟨8, rfl, by decide, by decide, for_range (fun j σ H4 => ∃ y5 y6 y7 y8 y9 y10 y11 y12 y13, σ = [some (.ref a), some (.int (0 + (i : Int))), some (.ref b), some (.ref W), some (.ref A), y5, y6, y7, y8, y9, y10, y11, y12, y13] ∧ But b HB H4 ∧ Box H4 b)
          ⟨_, _, _, _, _, _, _, _, _, rfl, But.refl _ _, BA⟩ (fun j σ H4 hj hP => ?_) (fun σ H4 hP => ?_)⟩
        · obtain ⟨y5, y6, y7, y8, y9, y10, y11, y12, y13, rfl, k4, B4⟩ := hP
          refine ⟨_, rfl, b, rfl, B4, fun q1 kd1 t1 m1 l1 H5 hk1 t10 t11 m10 m11 l10 l11 neq1 nq1 hq1 B5 k5 => ?_⟩
          refine ⟨_, rfl, b, rfl, B5, fun q2 kd2 t2 m2 l2 H6 hk2 t20 t21 m20 m21 l20 l21 neq2 nq2 hq2 B6 k6 => ?_⟩
          refine ⟨_, _, rfl, ?_⟩
          have hq1 : H6 q1 = some (.tup [.str kd1, .int t1, .int m1, .int l1]) := k6 _ _ neq1 hq1
          refine ⟨_, rfl, _, _, _, _, rfl, rfl, SqT.of hq1, rfl, ?_⟩
          refine ⟨_, rfl, _, _, _, _, rfl, rfl, SqT.of hq1, rfl, ?_⟩
          refine ⟨_, rfl, _, _, _, _, rfl, rfl, SqT.of hq1, rfl, ?_⟩
          refine ⟨_, rfl, _, _, _, _, rfl, rfl, SqT.of hq1, rfl, ?_⟩
          refine fun x1 dx1 nx1 ndx1 ne1 => ?_
          refine ⟨x1, dx1, b, _, _, _, _, rfl, upd_same, trivial, trivial, trivial, trivial, due_ok hk1 t10 m10 l10, rfl, ?_⟩
          have s7 := same_ins (o1 := .own x1) (o2 := .ins T.c_Slip dx1 []) (o3 := .ins T.c_Slip dx1 (flds (.str kd1) (.int t1) (.int m1) (.int l1))) nx1 ndx1
          have hx1 : upd (upd (upd H6 dx1 (.own x1)) x1 (.ins T.c_Slip dx1 [])) x1 (.ins T.c_Slip dx1 (flds (.str kd1) (.int t1) (.int m1) (.int l1))) x1 = some (.ins T.c_Slip dx1 (flds (.str kd1) (.int t1) (.int m1) (.int l1))) := upd_same
          generalize upd (upd (upd H6 dx1 (.own x1)) x1 (.ins T.c_Slip dx1 [])) x1 (.ins T.c_Slip dx1 (flds (.str kd1) (.int t1) (.int m1) (.int l1))) = H7 at s7 hx1
          have hq2 := s7 _ _ hq2
          refine ⟨_, rfl, _, _, _, _, rfl, rfl, SqT.of hq2, rfl, ?_⟩
          refine ⟨_, rfl, _, _, _, _, rfl, rfl, SqT.of hq2, rfl, ?_⟩
          refine ⟨_, rfl, _, _, _, _, rfl, rfl, SqT.of hq2, rfl, ?_⟩
          refine ⟨_, rfl, _, _, _, _, rfl, rfl, SqT.of hq2, rfl, ?_⟩
          refine fun x2 dx2 nx2 ndx2 ne2 => ?_
          refine ⟨x2, dx2, b, _, _, _, _, rfl, upd_same, trivial, trivial, trivial, trivial, due_ok hk2 t20 m20 l20, rfl, ?_⟩
          have s8 := same_ins (o1 := .own x2) (o2 := .ins T.c_Slip dx2 []) (o3 := .ins T.c_Slip dx2 (flds (.str kd2) (.int t2) (.int m2) (.int l2))) nx2 ndx2
          have hx2 : upd (upd (upd H7 dx2 (.own x2)) x2 (.ins T.c_Slip dx2 [])) x2 (.ins T.c_Slip dx2 (flds (.str kd2) (.int t2) (.int m2) (.int l2))) x2 = some (.ins T.c_Slip dx2 (flds (.str kd2) (.int t2) (.int m2) (.int l2))) := upd_same
          generalize upd (upd (upd H7 dx2 (.own x2)) x2 (.ins T.c_Slip dx2 [])) x2 (.ins T.c_Slip dx2 (flds (.str kd2) (.int t2) (.int m2) (.int l2))) = H8 at s8 hx2
          have hx1 := s8 _ _ hx1
          have hq1 := s8 _ _ (s7 _ _ hq1)
          have hq2 := s8 _ _ hq2
          refine ⟨_, _, rfl, ?_⟩
          refine ⟨_, rfl, x1, _, dx1, _, _, rfl, hx1, T.C_Slip, T.n_Slip_kind, rfl, ?_⟩
          refine ⟨_, rfl, x1, _, dx1, _, _, rfl, hx1, T.C_Slip, T.n_Slip_turn, rfl, ?_⟩
          refine ⟨_, rfl, x1, _, dx1, _, _, rfl, hx1, T.C_Slip, T.n_Slip_machine, rfl, ?_⟩
          refine ⟨_, rfl, x1, _, dx1, _, _, rfl, hx1, T.C_Slip, T.n_Slip_lane, rfl, ?_⟩
          refine ⟨szL (Nat.le_of_ble_eq_true rfl), fun r1 nr1 => ?_⟩
          have sh1 := shows_slip hk1 t10 t11 m10 m11 l10 l11
          have sh2 := shows_slip hk2 t20 t21 m20 m21 l20 l21
          refine ⟨_, _, rfl, dp_slip upd_same, sh1.sh, sh1.nd, sh1.dp, sh1.ln, ?_⟩
          have s9 := same_new (H := H8) (o := .tup [.str kd1, .int t1, .int m1, .int l1]) nr1
          generalize upd H8 r1 (.tup [.str kd1, .int t1, .int m1, .int l1]) = H9 at s9
          have hx1 := s9 _ _ hx1
          have hx2 := s9 _ _ hx2
          have hq1 := s9 _ _ hq1
          have hq2 := s9 _ _ hq2
          refine ⟨_, rfl, _, _, rfl, dp_slip hq1, sh1.sh, sh1.nd, sh1.dp, sh1.ln, ?_⟩
          refine ⟨rfl, _, rfl, ifF (by simp) ?_⟩
          refine ⟨_, rfl, _, rfl, _, _, dp_slip hq1, dp_slip hq2, sh1.shaped, sh2.shaped, ?_⟩
          rw [eqv_slip]
          refine ⟨_, rfl, _, rfl, x1, dx1, _, _, rfl, hx1, T.I_Slip.ty T.C_Slip hx2, notFirst_self, ?_⟩
          refine ⟨x1, dx1, _, _, _, _, _, rfl, hx1, .inl ⟨x2, dx2, _, _, _, _, rfl, hx2, ?_⟩⟩
          refine ⟨_, rfl, _, rfl, x1, dx1, _, _, rfl, hx1, T.I_Slip.ty T.C_Slip hx2, notFirst_self, ?_⟩
          refine ⟨x1, dx1, _, _, _, _, _, rfl, hx1, .inl ⟨x2, dx2, _, _, _, _, rfl, hx2, ?_⟩⟩
          refine ⟨_, rfl, ?_⟩
          refine ⟨szL (Nat.le_of_ble_eq_true rfl), fun r2 nr2 => ?_⟩
          have shb := shows_bools (sameS kd1 t1 m1 l1 kd2 t2 m2 l2) (!sameS kd1 t1 m1 l1 kd2 t2 m2 l2)
          refine ⟨_, _, rfl, .lst (SqL.of upd_same) (.cons (.bl _) (.cons (.bl _) .nil)), shb.sh, shb.nd, shb.dp, shb.ln, ?_⟩
          have s10 := same_new (H := H9) (o := .lst [.bl (sameS kd1 t1 m1 l1 kd2 t2 m2 l2), .bl (!sameS kd1 t1 m1 l1 kd2 t2 m2 l2)]) nr2
          generalize upd H9 r2 (.lst [.bl (sameS kd1 t1 m1 l1 kd2 t2 m2 l2), .bl (!sameS kd1 t1 m1 l1 kd2 t2 m2 l2)]) = H10 at s10
          refine ⟨_, rfl, _, rfl, _, rfl, ?_⟩
          refine ⟨szL (Nat.le_of_ble_eq_true rfl), fun r3 nr3 => ?_⟩
          refine ⟨_, _, rfl, .lst (SqL.of upd_same) (.cons (.bl _) (.cons (.bl _) .nil)), shb.sh, shb.nd, shb.dp, shb.ln, ?_⟩
          have s11 := s10.trans (same_new (o := .lst [.bl (sameS kd1 t1 m1 l1 kd2 t2 m2 l2), .bl (!sameS kd1 t1 m1 l1 kd2 t2 m2 l2)]) nr3)
          generalize upd H10 r3 (.lst [.bl (sameS kd1 t1 m1 l1 kd2 t2 m2 l2), .bl (!sameS kd1 t1 m1 l1 kd2 t2 m2 l2)]) = H11 at s11
          have hx1 := s11 _ _ hx1
          have hq1 := s11 _ _ hq1
          refine ⟨rfl, _, rfl, ifF (by simp) ?_⟩
          refine ⟨_, rfl, _, rfl, x1, dx1, _, _, rfl, hx1, .base (.tup hq1), nf_tuple, ?_⟩
          refine ⟨x1, dx1, _, _, _, _, _, rfl, hx1, .inr ⟨"tuple", .base (.tup hq1), .tup, ?_⟩⟩
          refine ⟨_, rfl, ifF rfl ?_⟩
          refine ⟨_, rfl, ?_⟩
          refine ⟨_, rfl, _, _, _, _, rfl, rfl, SqT.of hq1, rfl, ?_⟩
          refine ⟨_, rfl, _, _, _, _, rfl, rfl, SqT.of hq1, rfl, ?_⟩
          refine ⟨_, rfl, _, _, _, _, rfl, rfl, SqT.of hq1, rfl, ?_⟩
          refine ⟨_, rfl, _, _, _, _, rfl, rfl, SqT.of hq1, rfl, ?_⟩
          refine fun x3 dx3 nx3 ndx3 ne3 => ?_
          refine ⟨x3, dx3, b, _, _, _, _, rfl, upd_same, trivial, trivial, trivial, trivial, due_ok hk1 t10 m10 l10, rfl, ?_⟩
          have s12 := same_ins (o1 := .own x3) (o2 := .ins T.c_Slip dx3 []) (o3 := .ins T.c_Slip dx3 (flds (.str kd1) (.int t1) (.int m1) (.int l1))) nx3 ndx3
          have hx3 : upd (upd (upd H11 dx3 (.own x3)) x3 (.ins T.c_Slip dx3 [])) x3 (.ins T.c_Slip dx3 (flds (.str kd1) (.int t1) (.int m1) (.int l1))) x3 = some (.ins T.c_Slip dx3 (flds (.str kd1) (.int t1) (.int m1) (.int l1))) := upd_same
          generalize upd (upd (upd H11 dx3 (.own x3)) x3 (.ins T.c_Slip dx3 [])) x3 (.ins T.c_Slip dx3 (flds (.str kd1) (.int t1) (.int m1) (.int l1))) = H12 at s12 hx3
          have hx1 := s12 _ _ hx1
          have hq1 := s12 _ _ hq1
          refine ⟨x1, dx1, _, _, rfl, hx1, T.I_Slip.ty T.C_Slip hx3, notFirst_self, ?_⟩
          refine ⟨x1, dx1, _, _, _, _, _, rfl, hx1, .inl ⟨x3, dx3, _, _, _, _, rfl, hx3, ?_⟩⟩
          refine ⟨_, rfl, _, rfl, ifF (by rw [same_self]; rfl) ?_⟩
          refine ⟨_, rfl, _, rfl, ?_⟩
          refine ⟨szL (Nat.le_of_ble_eq_true rfl), fun r4 nr4 => ?_⟩
          have s13 := same_new (H := H12) (o := .tup [.non, .str "lost", .ref q1]) nr4
          have hr4 : upd H12 r4 (.tup [.non, .str "lost", .ref q1]) r4 = some (.tup [.non, .str "lost", .ref q1]) := upd_same
          generalize upd H12 r4 (.tup [.non, .str "lost", .ref q1]) = H13 at s13 hr4
          have hx1 := s13 _ _ hx1
          have hq1 := s13 _ _ hq1
          refine ⟨x1, dx1, _, r4, _, rfl, hx1, rfl, SqT.of hr4, ?_, ?_⟩
          · intro z hz
            simp only [List.mem_cons, List.not_mem_nil, or_false] at hz
            rcases hz with rfl | rfl | rfl
            · exact ⟨.inl rfl, ⟨x1, dx1, _, _, _, _, _, rfl, hx1, .inr ⟨"NoneType", .base .non, .non, rfl, rfl⟩⟩⟩
            · exact ⟨.inr (.inl ⟨_, rfl⟩), ⟨x1, dx1, _, _, _, _, _, rfl, hx1, .inr ⟨"str", .base (.str _), .str, rfl, rfl⟩⟩⟩
            · exact ⟨.inr (.inr (.inr ⟨_, _, rfl, SqT.of hq1⟩)), ⟨x1, dx1, _, _, _, _, _, rfl, hx1, .inr ⟨"tuple", .base (.tup hq1), .tup, rfl, rfl⟩⟩⟩
          refine ⟨_, rfl, ifF rfl ?_⟩
          have k6B : But b HB H13 := (k4.trans (k5.trans k6)).trans (But.of_same (((((s7.trans s8).trans s9).trans s11).trans s12).trans s13))
          have B13 := B6.same (((((s7.trans s8).trans s9).trans s11).trans s12).trans s13)
          refine ⟨_, rfl, q1, _, rfl, .inr (SqT.of hq1), fun g ng => ?_⟩
          have neg := B13.ne_none ng
          have hg0 : upd H13 g (.lst [.str kd1, .int t1, .int m1, .int l1]) g = some (.lst [.str kd1, .int t1, .int m1, .int l1]) := upd_same
          have kg : But b H13 (upd H13 g (.lst [.str kd1, .int t1, .int m1, .int l1])) := But.of_same (same_new ng)
          have Bg := B13.same (same_new (o := .lst [.str kd1, .int t1, .int m1, .int l1]) ng)
          generalize upd H13 g (.lst [.str kd1, .int t1, .int m1, .int l1]) = H14 at hg0 kg Bg
          refine ⟨_, rfl, szL (Nat.le_of_ble_eq_true rfl), fun M0 nM0 => ?_⟩
          refine ⟨b, M0, [0, 1, 2, 3], rfl, Bg.same (same_new nM0), Bg.ne_none nM0, upd_same, by decide, fun M ms H15 lms ims neM hM nM B15 k15 => ?_⟩
          have k15 := (But.of_same (b := b) (same_new (o := .lst [.int 0, .int 1, .int 2, .int 3]) nM0)).trans k15
          refine ⟨_, rfl, b, 2, rfl, B15, by decide, by decide, fun r H16 rr0 rr1 B16 k16 => ?_⟩
          refine ⟨_, _, rfl, rfl, _, rfl, M, _, rfl, SqL.of (k16 _ _ neM hM), fun S nS => ?_⟩
          obtain ⟨ss, ess, sne, sl4, sin⟩ := cut_some lms rr0 rr1
          rw [ess]
          have sin : ∀ m ∈ ss, m = 0 ∨ m = 1 ∨ m = 2 ∨ m = 3 := fun m h => by
            have := ims m (sin m h)
            simpa using this
          have neS := B16.ne_none nS
          have k17 : But b H14 (upd H16 S (.lst (ss.map V.int))) := (k15.trans k16).trans (But.of_same (same_new nS))
          have hS17 : upd H16 S (.lst (ss.map V.int)) S = some (.lst (ss.map V.int)) := upd_same
          have B17 := B16.same (same_new (o := .lst (ss.map V.int)) nS)
          have hg16 : H16 g = some (.lst [.str kd1, .int t1, .int m1, .int l1]) := (k15.trans k16) _ _ neg hg0
          have neSg : S ≠ g := by
            rintro rfl
            rw [hg16] at nS
            cases nS
          generalize upd H16 S (.lst (ss.map V.int)) = H17 at k17 hS17 B17
          obtain ⟨o0, o1, o2, o3⟩ := ok_good hk1 t10 m10 l10
          refine ⟨_, rfl, S, rfl, ⟨_, SqL.of hS17⟩, for_list (xs := ss.map V.int) (fun n σ Hx => ∃ y13 v0 v1 v2 v3, σ = [some (.ref a), some (.int (0 + (i : Int))), some (.ref b), some (.ref W), some (.ref A), some (.int (0 + (j : Int))), some (.ref q1), some (.ref q2), some (.ref x1), some (.ref x2), some (.bl (sameS kd1 t1 m1 l1 kd2 t2 m2 l2)), some (.ref g), some (.ref S), y13] ∧
              But b H13 Hx ∧ Box Hx b ∧ Hx g = some (.lst [v0, v1, v2, v3]) ∧ Hx S = some (.lst (ss.map V.int)) ∧ Sh b Hx v0 ∧ Sh b Hx v1 ∧ Sh b Hx v2 ∧ Sh b Hx v3 ∧
              isOne kinds v0 = (!(ss.take n).contains 0) ∧ numOk v1 = (!(ss.take n).contains 1) ∧ numOk v2 = (!(ss.take n).contains 2) ∧ numOk v3 = (!(ss.take n).contains 3))
            ⟨y13, _, _, _, _, rfl, kg.trans k17, B17, k17 _ _ neg hg0, hS17, trivial, trivial, trivial, trivial, o0, o1, o2, o3⟩ (fun n σ Hx _ hP => ?_) (fun n x σ Hx hx hP => ?_) (fun σ Hx hP => ?_)⟩
          · obtain ⟨_, _, _, _, _, _, _, _, _, hSx, _⟩ := hP
            exact SqL.of hSx
          · obtain ⟨y13, v0, v1, v2, v3, rfl, kx, Bx, hgx, hSx, z0, z1, z2, z3, c0, c1, c2, c3⟩ := hP
            obtain ⟨m, hm, rfl⟩ := map_int_get hx
            obtain ⟨neA2, L0', L1', L2', L3', hA, b0, b1, b2, b3⟩ := hbads.but (k6B.trans kx)
            have hmem : m ∈ ss := List.mem_of_getElem? hm
            have t0 := contains_snoc (k := 0) hm
            have t1' := contains_snoc (k := 1) hm
            have t2' := contains_snoc (k := 2) hm
            have t3' := contains_snoc (k := 3) hm
            have fin : ∀ (Lb : Addr) (ok : V → Bool), Bad ok b Hx Lb → ∀ Q' : V → Hp → Prop, (∀ u Hy, Sh b Hy u → ok u = false → Box Hy b → But b Hx Hy → Q' u Hy) → spPick [.ref b, .ref Lb] Hx Q' E0 := fun Lb ok hb Q' q => by
              obtain ⟨xs, n1, e1, l0, l1, qs⟩ := hb
              exact ⟨b, Lb, xs, rfl, Bx, n1, e1, l0, l1, fun v Hy hv By ky => q v Hy ((qs v hv).1.but ky) (qs v hv).2 By ky⟩
            rcases sin m hmem with rfl | rfl | rfl | rfl
            · refine ⟨_, rfl, _, rfl, _, rfl, _, _, _, _, rfl, rfl, SqL.of hA, rfl, ?_⟩
              refine fin L0' _ b0 _ fun u Hy hu ou By ky => ?_
              have hgy := ky _ _ neg hgx
              refine ⟨_, rfl, _, rfl, g, _, 0, 0, rfl, rfl, hgy, rfl, ?_⟩
              refine ⟨_, u, v1, v2, v3, rfl, but_new (kx.trans ky) ng, box_ne By neg, upd_same, by rw [upd_ne neSg]; exact ky _ _ neS hSx, hu.set hgy, (z1.but ky).set hgy, (z2.but ky).set hgy, (z3.but ky).set hgy, ?_, ?_, ?_, ?_⟩
              · rw [t0, ou]; simp
              · rw [t1', c1]; simp
              · rw [t2', c2]; simp
              · rw [t3', c3]; simp
            · refine ⟨_, rfl, _, rfl, _, rfl, _, _, _, _, rfl, rfl, SqL.of hA, rfl, ?_⟩
              refine fin L1' _ b1 _ fun u Hy hu ou By ky => ?_
              have hgy := ky _ _ neg hgx
              refine ⟨_, rfl, _, rfl, g, _, 1, 1, rfl, rfl, hgy, rfl, ?_⟩
              refine ⟨_, v0, u, v2, v3, rfl, but_new (kx.trans ky) ng, box_ne By neg, upd_same, by rw [upd_ne neSg]; exact ky _ _ neS hSx, (z0.but ky).set hgy, hu.set hgy, (z2.but ky).set hgy, (z3.but ky).set hgy, ?_, ?_, ?_, ?_⟩
              · rw [t0, c0]; simp
              · rw [t1', ou]; simp
              · rw [t2', c2]; simp
              · rw [t3', c3]; simp
            · refine ⟨_, rfl, _, rfl, _, rfl, _, _, _, _, rfl, rfl, SqL.of hA, rfl, ?_⟩
              refine fin L2' _ b2 _ fun u Hy hu ou By ky => ?_
              have hgy := ky _ _ neg hgx
              refine ⟨_, rfl, _, rfl, g, _, 2, 2, rfl, rfl, hgy, rfl, ?_⟩
              refine ⟨_, v0, v1, u, v3, rfl, but_new (kx.trans ky) ng, box_ne By neg, upd_same, by rw [upd_ne neSg]; exact ky _ _ neS hSx, (z0.but ky).set hgy, (z1.but ky).set hgy, hu.set hgy, (z3.but ky).set hgy, ?_, ?_, ?_, ?_⟩
              · rw [t0, c0]; simp
              · rw [t1', c1]; simp
              · rw [t2', ou]; simp
              · rw [t3', c3]; simp
            · refine ⟨_, rfl, _, rfl, _, rfl, _, _, _, _, rfl, rfl, SqL.of hA, rfl, ?_⟩
              refine fin L3' _ b3 _ fun u Hy hu ou By ky => ?_
              have hgy := ky _ _ neg hgx
              refine ⟨_, rfl, _, rfl, g, _, 3, 3, rfl, rfl, hgy, rfl, ?_⟩
              refine ⟨_, v0, v1, v2, u, rfl, but_new (kx.trans ky) ng, box_ne By neg, upd_same, by rw [upd_ne neSg]; exact ky _ _ neS hSx, (z0.but ky).set hgy, (z1.but ky).set hgy, (z2.but ky).set hgy, hu.set hgy, ?_, ?_, ?_, ?_⟩
              · rw [t0, c0]; simp
              · rw [t1', c1]; simp
              · rw [t2', c2]; simp
              · rw [t3', ou]; simp
          · obtain ⟨y13, v0, v1, v2, v3, rfl, kx, Bx, hgx, hSx, z0, z1, z2, z3, c0, c1, c2, c3⟩ := hP
            rw [List.length_map, List.take_length] at c0 c1 c2 c3
            refine ⟨_, rfl, b, g, v0, v1, v2, v3, rfl, .inl (SqL.of hgx), z0, z1, z2, z3, fun H18 s18 => ?_⟩
            refine ⟨_, rfl, _, rfl, S, rfl, ⟨_, SqL.of (s18 _ _ hSx)⟩, fun D2 nD2 => ?_⟩
            refine lc_list (xs := ss.map V.int) (fun n Hc => Hc D2 = some (.lst ((ss.take n).map V.int)) ∧ Same H18 Hc) ⟨upd_same, same_new nD2⟩ (fun n Hc _ hP => SqL.of (hP.2 _ _ (s18 _ _ hSx))) (fun n x Hc hx hP => ?_) (fun Hc hP => ?_)
            · obtain ⟨hDc, sc⟩ := hP
              obtain ⟨m, hm, rfl⟩ := map_int_get hx
              have hn := (List.getElem?_eq_some_iff.mp hm).1
              refine ⟨rfl, _, rfl, .inl ⟨_, rfl, ?_⟩⟩
              refine ⟨_, hDc, szl (by rw [List.length_map, List.length_take]; omega), by rw [upd_same, take_snoc hm, List.map_append]; rfl, same_lst sc nD2⟩
            · obtain ⟨hDc, sc⟩ := hP
              rw [List.length_map, List.take_length] at hDc
              refine ⟨D2, ss, rfl, SqL.of hDc, List.length_pos_iff.mpr sne, fun mn hmn hall => ?_⟩
              obtain ⟨txt, ew, ea⟩ := due_spoilt sin c0 c1 c2 c3 hmn hall
              have kc : But b H13 Hc := (kx.trans (But.of_same s18)).trans (But.of_same sc)
              have hWc := (k6B.trans kc) _ _ neW hW
              refine ⟨_, _, _, _, rfl, rfl, SqL.of hWc, ew, ?_⟩
              rw [ea]
              refine ⟨rfl, _, rfl, ifF (by simp) ?_⟩
              have hq1c := kc _ _ neq1 hq1
              refine ⟨_, rfl, b, q1, _, _, _, _, rfl, .inr (SqT.of hq1c), trivial, trivial, trivial, trivial, fun H20 s20 => ?_⟩
              rw [ans_good hk1 t10 m10 l10]
              refine ⟨rfl, _, rfl, ifF (by decide) ?_⟩
              exact ⟨_, _, _, _, _, _, _, _, _, rfl, (k6B.trans kc).trans (But.of_same s20), ((Bx.same s18).same sc).same s20⟩
        · obtain ⟨y5, y6, y7, y8, y9, y10, y11, y12, y13, rfl, k4, B4⟩ := hP
          exact ⟨_, _, _, _, _, _, _, _, _, _, _, _, _, rfl, same_but s03 (k3A.trans k4) nb0⟩
    · obtain ⟨y1, y2, y3, y4, y5, y6, y7, y8, y9, y10, y11, y12, y13, rfl, s2⟩ := hP
      refine ⟨szL (Nat.le_of_ble_eq_true rfl), fun q1 nq1 => ?_⟩
      refine ⟨q1, q1, _, _, _, _, rfl, .inr (SqT.of upd_same), trivial, trivial, trivial, trivial, fun H3 s3 => ?_⟩
      refine ⟨rfl, _, by decide +kernel, iteT ?_⟩
      refine ⟨szL (Nat.le_of_ble_eq_true rfl), fun q2 nq2 => ?_⟩
      refine ⟨q2, q2, _, _, _, _, rfl, .inr (SqT.of upd_same), trivial, trivial, trivial, trivial, fun H4 s4 => ?_⟩
      refine ⟨rfl, ?_⟩
      exact k _

end
theorem all_mk {l : PySem.W.OpenLaw} {w : World} {K : PySem.W.Frag} {h : Heap} {mg : Str → Option Value} {fa : Addr} (X : K.In h) (G : h.Ns mainGlobals mg) (hfa : mg "law" = some (.ref fa))
    {C_RingError : Addr} (aC_RingError : PySem.W.nsIn K mainGlobals "RingError" = some (some (.ref C_RingError)))
    {C_InvalidLane : Addr} (aC_InvalidLane : PySem.W.nsIn K mainGlobals "InvalidLane" = some (some (.ref C_InvalidLane)))
    {nm_InvalidLane q_InvalidLane : Str} {N_InvalidLane : Addr} {bs_InvalidLane : List Value} {sn_InvalidLane : List Str} {sub_InvalidLane : List Value} {ab_InvalidLane : Bool} {col_InvalidLane : Option Bool} {dd_InvalidLane : Option Addr} {m0_InvalidLane m1_InvalidLane m2_InvalidLane m3_InvalidLane m5_InvalidLane : Option Value}
    (xL_InvalidLane : K.lookup C_InvalidLane = some (excClassObj nm_InvalidLane q_InvalidLane C_InvalidLane N_InvalidLane bs_InvalidLane [.ref C_RingError, .type "ValueError", .type "Exception", .type "BaseException", .type "object"] true sn_InvalidLane sub_InvalidLane ab_InvalidLane col_InvalidLane dd_InvalidLane m0_InvalidLane m1_InvalidLane m2_InvalidLane m3_InvalidLane m5_InvalidLane "ValueError.__new__"))
    (sa_InvalidLane : PySem.W.findIn K (.ref C_InvalidLane) "__setattr__" = some (some (.builtin "object.__setattr__")))
    (ga_InvalidLane : PySem.W.findIn K (.ref C_InvalidLane) "__getattribute__" = some (some (.builtin "BaseException.__getattribute__")))
    (gg_InvalidLane : PySem.W.findIn K (.ref C_InvalidLane) "__getattr__" = some none)
    (nw_InvalidLane : PySem.W.findIn K (.ref C_InvalidLane) "word" = some none)
    (ca_InvalidLane : PySem.W.findIn K (.ref C_InvalidLane) "__class__" = some (some (.builtin "object.__class__")))
    (kC_InvalidLane : PySem.W.keepIn K (.ref C_InvalidLane) = true)
    (eC_InvalidLane : PySem.W.subIn K (.ref C_InvalidLane) (.type "BaseException") = some true)
    (tC_InvalidLane : PySem.W.typeIn K (.ref C_InvalidLane) = some (.type "type"))
    (hC_InvalidLane : PySem.W.hasDictIn K C_InvalidLane = true)
    (sC_InvalidLane : PySem.W.subIn K (.ref C_InvalidLane) (.ref C_InvalidLane) = some true)
    (mo_InvalidLane : PySem.W.mroIn K C_InvalidLane (.type "object") = some true)
    (cl_InvalidLane : (PySem.W.clsIn K C_InvalidLane).isSome = true)
    {f0 : Addr} {od0 an0 : Option Addr} {sl0 : Array (Option Value)} {oc0 kV0 dc0 pm0 cd0 ct0 : Value}
    (l0 : K.lookup f0 = some ⟨oc0, od0, .func (PySem.W.fnOf "__init__" "InvalidLane.__init__" (defArgs s_InvalidLane___init__) (defBody s_InvalidLane___init__) (defScope s_InvalidLane___init__) .none kV0 dc0 pm0 an0 cd0 ct0), sl0⟩) (c0 : PySem.W.codeIn K cd0 "InvalidLane.__init__" = true) (k0 : PySem.W.keepIn K (.ref f0) = true)
    (iC_InvalidLane : PySem.W.findIn K (.ref C_InvalidLane) "__init__" = some (some (.ref f0))) (iT_InvalidLane : PySem.W.typeIn K (.ref f0) = some (.type "function"))
    {C_InvalidRows : Addr} (aC_InvalidRows : PySem.W.nsIn K mainGlobals "InvalidRows" = some (some (.ref C_InvalidRows)))
    {nm_InvalidRows q_InvalidRows : Str} {N_InvalidRows : Addr} {bs_InvalidRows : List Value} {sn_InvalidRows : List Str} {sub_InvalidRows : List Value} {ab_InvalidRows : Bool} {col_InvalidRows : Option Bool} {dd_InvalidRows : Option Addr} {m0_InvalidRows m1_InvalidRows m2_InvalidRows m3_InvalidRows m5_InvalidRows : Option Value}
    (xL_InvalidRows : K.lookup C_InvalidRows = some (excClassObj nm_InvalidRows q_InvalidRows C_InvalidRows N_InvalidRows bs_InvalidRows [.ref C_RingError, .type "ValueError", .type "Exception", .type "BaseException", .type "object"] true sn_InvalidRows sub_InvalidRows ab_InvalidRows col_InvalidRows dd_InvalidRows m0_InvalidRows m1_InvalidRows m2_InvalidRows m3_InvalidRows m5_InvalidRows "ValueError.__new__"))
    (sa_InvalidRows : PySem.W.findIn K (.ref C_InvalidRows) "__setattr__" = some (some (.builtin "object.__setattr__")))
    (ga_InvalidRows : PySem.W.findIn K (.ref C_InvalidRows) "__getattribute__" = some (some (.builtin "BaseException.__getattribute__")))
    (gg_InvalidRows : PySem.W.findIn K (.ref C_InvalidRows) "__getattr__" = some none)
    (nw_InvalidRows : PySem.W.findIn K (.ref C_InvalidRows) "at" = some none)
    (ca_InvalidRows : PySem.W.findIn K (.ref C_InvalidRows) "__class__" = some (some (.builtin "object.__class__")))
    (kC_InvalidRows : PySem.W.keepIn K (.ref C_InvalidRows) = true)
    (eC_InvalidRows : PySem.W.subIn K (.ref C_InvalidRows) (.type "BaseException") = some true)
    (tC_InvalidRows : PySem.W.typeIn K (.ref C_InvalidRows) = some (.type "type"))
    (hC_InvalidRows : PySem.W.hasDictIn K C_InvalidRows = true)
    (sC_InvalidRows : PySem.W.subIn K (.ref C_InvalidRows) (.ref C_InvalidRows) = some true)
    (mo_InvalidRows : PySem.W.mroIn K C_InvalidRows (.type "object") = some true)
    (cl_InvalidRows : (PySem.W.clsIn K C_InvalidRows).isSome = true)
    {f1 : Addr} {od1 an1 : Option Addr} {sl1 : Array (Option Value)} {oc1 kV1 dc1 pm1 cd1 ct1 : Value}
    (l1 : K.lookup f1 = some ⟨oc1, od1, .func (PySem.W.fnOf "__init__" "InvalidRows.__init__" (defArgs s_InvalidRows___init__) (defBody s_InvalidRows___init__) (defScope s_InvalidRows___init__) .none kV1 dc1 pm1 an1 cd1 ct1), sl1⟩) (c1 : PySem.W.codeIn K cd1 "InvalidRows.__init__" = true) (k1 : PySem.W.keepIn K (.ref f1) = true)
    (iC_InvalidRows : PySem.W.findIn K (.ref C_InvalidRows) "__init__" = some (some (.ref f1))) (iT_InvalidRows : PySem.W.typeIn K (.ref f1) = some (.type "function"))
    {C_InvalidSlip : Addr} (aC_InvalidSlip : PySem.W.nsIn K mainGlobals "InvalidSlip" = some (some (.ref C_InvalidSlip)))
    {nm_InvalidSlip q_InvalidSlip : Str} {N_InvalidSlip : Addr} {bs_InvalidSlip : List Value} {sn_InvalidSlip : List Str} {sub_InvalidSlip : List Value} {ab_InvalidSlip : Bool} {col_InvalidSlip : Option Bool} {dd_InvalidSlip : Option Addr} {m0_InvalidSlip m1_InvalidSlip m2_InvalidSlip m3_InvalidSlip m5_InvalidSlip : Option Value}
    (xL_InvalidSlip : K.lookup C_InvalidSlip = some (excClassObj nm_InvalidSlip q_InvalidSlip C_InvalidSlip N_InvalidSlip bs_InvalidSlip [.ref C_RingError, .type "ValueError", .type "Exception", .type "BaseException", .type "object"] true sn_InvalidSlip sub_InvalidSlip ab_InvalidSlip col_InvalidSlip dd_InvalidSlip m0_InvalidSlip m1_InvalidSlip m2_InvalidSlip m3_InvalidSlip m5_InvalidSlip "ValueError.__new__"))
    (sa_InvalidSlip : PySem.W.findIn K (.ref C_InvalidSlip) "__setattr__" = some (some (.builtin "object.__setattr__")))
    (ga_InvalidSlip : PySem.W.findIn K (.ref C_InvalidSlip) "__getattribute__" = some (some (.builtin "BaseException.__getattribute__")))
    (gg_InvalidSlip : PySem.W.findIn K (.ref C_InvalidSlip) "__getattr__" = some none)
    (nw_InvalidSlip : PySem.W.findIn K (.ref C_InvalidSlip) "word" = some none)
    (ca_InvalidSlip : PySem.W.findIn K (.ref C_InvalidSlip) "__class__" = some (some (.builtin "object.__class__")))
    (kC_InvalidSlip : PySem.W.keepIn K (.ref C_InvalidSlip) = true)
    (eC_InvalidSlip : PySem.W.subIn K (.ref C_InvalidSlip) (.type "BaseException") = some true)
    (tC_InvalidSlip : PySem.W.typeIn K (.ref C_InvalidSlip) = some (.type "type"))
    (hC_InvalidSlip : PySem.W.hasDictIn K C_InvalidSlip = true)
    (sC_InvalidSlip : PySem.W.subIn K (.ref C_InvalidSlip) (.ref C_InvalidSlip) = some true)
    (mo_InvalidSlip : PySem.W.mroIn K C_InvalidSlip (.type "object") = some true)
    (cl_InvalidSlip : (PySem.W.clsIn K C_InvalidSlip).isSome = true)
    {f2 : Addr} {od2 an2 : Option Addr} {sl2 : Array (Option Value)} {oc2 kV2 dc2 pm2 cd2 ct2 : Value}
    (l2 : K.lookup f2 = some ⟨oc2, od2, .func (PySem.W.fnOf "__init__" "InvalidSlip.__init__" (defArgs s_InvalidSlip___init__) (defBody s_InvalidSlip___init__) (defScope s_InvalidSlip___init__) .none kV2 dc2 pm2 an2 cd2 ct2), sl2⟩) (c2 : PySem.W.codeIn K cd2 "InvalidSlip.__init__" = true) (k2 : PySem.W.keepIn K (.ref f2) = true)
    (iC_InvalidSlip : PySem.W.findIn K (.ref C_InvalidSlip) "__init__" = some (some (.ref f2))) (iT_InvalidSlip : PySem.W.typeIn K (.ref f2) = some (.type "function"))
    {C_Slip : Addr} (aC_Slip : PySem.W.nsIn K mainGlobals "Slip" = some (some (.ref C_Slip)))
    (pg_Slip : PySem.W.plainGet K C_Slip Str.empty = true)
    (hd_Slip : PySem.W.hasDictIn K C_Slip = true)
    (po_Slip : PySem.W.plainOver K C_Slip = true)
    (sa_Slip : PySem.W.findIn K (.ref C_Slip) "__setattr__" = some (some (.builtin "object.__setattr__")))
    (mk_Slip : PySem.W.makesIn K C_Slip = true)
    (kc_Slip : PySem.W.keepIn K (.ref C_Slip) = true)
    (n_kind_Slip : PySem.W.findIn K (.ref C_Slip) "kind" = some none)
    (n_turn_Slip : PySem.W.findIn K (.ref C_Slip) "turn" = some none)
    (n_machine_Slip : PySem.W.findIn K (.ref C_Slip) "machine" = some none)
    (n_lane_Slip : PySem.W.findIn K (.ref C_Slip) "lane" = some none)
    (cl_Slip : (PySem.W.clsIn K C_Slip).isSome = true)
    (tC_Slip : PySem.W.typeIn K (.ref C_Slip) = some (.type "type"))
    (ca_Slip : PySem.W.findIn K (.ref C_Slip) "__class__" = some (some (.builtin "object.__class__")))
    (mo_Slip : PySem.W.mroIn K C_Slip (.type "object") = some true)
    (nE_Slip : PySem.W.findIn K (.ref C_Slip) "__ne__" = some (some (.builtin "object.__ne__")))
    (mo_N_Slip : PySem.W.mroIn K C_Slip (.type "NoneType") = some false)
    (mo_S_Slip : PySem.W.mroIn K C_Slip (.type "str") = some false)
    (mo_T_Slip : PySem.W.mroIn K C_Slip (.type "tuple") = some false)
    (mo_L_Slip : PySem.W.mroIn K C_Slip (.type "list") = some false)
    (mo_I_Slip : PySem.W.mroIn K C_Slip (.type "int") = some false)
    {f3 : Addr} {od3 an3 : Option Addr} {sl3 : Array (Option Value)} {oc3 kV3 dc3 pm3 cd3 ct3 : Value}
    (l3 : K.lookup f3 = some ⟨oc3, od3, .func (PySem.W.fnOf "__init__" "Slip.__init__" (defArgs s_Slip___init__) (defBody s_Slip___init__) (defScope s_Slip___init__) .none kV3 dc3 pm3 an3 cd3 ct3), sl3⟩) (c3 : PySem.W.codeIn K cd3 "Slip.__init__" = true) (k3 : PySem.W.keepIn K (.ref f3) = true)
    (a3 : PySem.W.findIn K (.ref C_Slip) "__init__" = some (some (.ref f3))) (i3 : PySem.W.isFn K (.ref f3) = true)
    {f4 : Addr} {od4 an4 : Option Addr} {sl4 : Array (Option Value)} {oc4 kV4 dc4 pm4 cd4 ct4 : Value}
    (l4 : K.lookup f4 = some ⟨oc4, od4, .func (PySem.W.fnOf "__eq__" "Slip.__eq__" (defArgs s_Slip___eq__) (defBody s_Slip___eq__) (defScope s_Slip___eq__) .none kV4 dc4 pm4 an4 cd4 ct4), sl4⟩) (c4 : PySem.W.codeIn K cd4 "Slip.__eq__" = true) (k4 : PySem.W.keepIn K (.ref f4) = true)
    (a4 : PySem.W.findIn K (.ref C_Slip) "__eq__" = some (some (.ref f4))) (i4 : PySem.W.isFn K (.ref f4) = true)
    (spec : PySem.W.specialIn K (.builtin "object.__class__") "__get__" = some (some (.builtin "getset_descriptor.__get__"))) (takes : PySem.W.takesIn K (.builtin "object.__class__") = some true)
    (kit_InvalidSlip_RingError : PySem.W.kitOne K (.ref C_InvalidSlip) (.ref C_RingError) = some true)
    (kit_InvalidSlip_InvalidLane : PySem.W.kitOne K (.ref C_InvalidSlip) (.ref C_InvalidLane) = some false)
    (kit_InvalidSlip_InvalidRows : PySem.W.kitOne K (.ref C_InvalidSlip) (.ref C_InvalidRows) = some false)
    {A_KINDS : Addr} {dd_KINDS : Option Addr} {n_KINDS : Nat} {sl_KINDS : Array (Option Value)} {t_KINDS0 : Tok} {t_KINDS1 : Tok}
    (a_KINDS : PySem.W.nsIn K mainGlobals "KINDS" = some (some (.ref A_KINDS))) (l_KINDS : K.lookup A_KINDS = some ⟨.type "tuple", dd_KINDS, .seq [Value.str "again" t_KINDS0, Value.str "lost" t_KINDS1].toArray n_KINDS, sl_KINDS⟩)
    {f5 : Addr} {od5 an5 : Option Addr} {sl5 : Array (Option Value)} {oc5 kV5 dc5 pm5 cd5 ct5 : Value}
    (l5 : K.lookup f5 = some ⟨oc5, od5, .func (PySem.W.fnOf "is_whole" "is_whole" (defArgs s_is_whole) (defBody s_is_whole) (defScope s_is_whole) .none kV5 dc5 pm5 an5 cd5 ct5), sl5⟩) (c5 : PySem.W.codeIn K cd5 "is_whole" = true) (k5 : PySem.W.keepIn K (.ref f5) = true)
    (a5 : PySem.W.nsIn K mainGlobals "is_whole" = some (some (.ref f5)))
    {f6 : Addr} {od6 an6 : Option Addr} {sl6 : Array (Option Value)} {oc6 kV6 dc6 pm6 cd6 ct6 : Value}
    (l6 : K.lookup f6 = some ⟨oc6, od6, .func (PySem.W.fnOf "is_number" "is_number" (defArgs s_is_number) (defBody s_is_number) (defScope s_is_number) .none kV6 dc6 pm6 an6 cd6 ct6), sl6⟩) (c6 : PySem.W.codeIn K cd6 "is_number" = true) (k6 : PySem.W.keepIn K (.ref f6) = true)
    (a6 : PySem.W.nsIn K mainGlobals "is_number" = some (some (.ref f6)))
    {f7 : Addr} {od7 an7 : Option Addr} {sl7 : Array (Option Value)} {oc7 kV7 dc7 pm7 cd7 ct7 : Value}
    (l7 : K.lookup f7 = some ⟨oc7, od7, .func (PySem.W.fnOf "_law_box" "_law_box" (defArgs s__law_box) (defBody s__law_box) (defScope s__law_box) .none kV7 dc7 pm7 an7 cd7 ct7), sl7⟩) (c7 : PySem.W.codeIn K cd7 "_law_box" = true) (k7 : PySem.W.keepIn K (.ref f7) = true)
    (a7 : PySem.W.nsIn K mainGlobals "_law_box" = some (some (.ref f7)))
    {f8 : Addr} {od8 an8 : Option Addr} {sl8 : Array (Option Value)} {oc8 kV8 dc8 pm8 cd8 ct8 : Value}
    (l8 : K.lookup f8 = some ⟨oc8, od8, .func (PySem.W.fnOf "_law_take" "_law_take" (defArgs s__law_take) (defBody s__law_take) (defScope s__law_take) .none kV8 dc8 pm8 an8 cd8 ct8), sl8⟩) (c8 : PySem.W.codeIn K cd8 "_law_take" = true) (k8 : PySem.W.keepIn K (.ref f8) = true)
    (a8 : PySem.W.nsIn K mainGlobals "_law_take" = some (some (.ref f8)))
    {f9 : Addr} {od9 an9 : Option Addr} {sl9 : Array (Option Value)} {oc9 kV9 dc9 pm9 cd9 ct9 : Value}
    (l9 : K.lookup f9 = some ⟨oc9, od9, .func (PySem.W.fnOf "_law_pick" "_law_pick" (defArgs s__law_pick) (defBody s__law_pick) (defScope s__law_pick) .none kV9 dc9 pm9 an9 cd9 ct9), sl9⟩) (c9 : PySem.W.codeIn K cd9 "_law_pick" = true) (k9 : PySem.W.keepIn K (.ref f9) = true)
    (a9 : PySem.W.nsIn K mainGlobals "_law_pick" = some (some (.ref f9)))
    {f10 : Addr} {od10 an10 : Option Addr} {sl10 : Array (Option Value)} {oc10 kV10 dc10 pm10 cd10 ct10 : Value}
    (l10 : K.lookup f10 = some ⟨oc10, od10, .func (PySem.W.fnOf "_law_mixed" "_law_mixed" (defArgs s__law_mixed) (defBody s__law_mixed) (defScope s__law_mixed) .none kV10 dc10 pm10 an10 cd10 ct10), sl10⟩) (c10 : PySem.W.codeIn K cd10 "_law_mixed" = true) (k10 : PySem.W.keepIn K (.ref f10) = true)
    (a10 : PySem.W.nsIn K mainGlobals "_law_mixed" = some (some (.ref f10)))
    {f11 : Addr} {od11 an11 : Option Addr} {sl11 : Array (Option Value)} {oc11 kV11 dc11 pm11 cd11 ct11 : Value}
    (l11 : K.lookup f11 = some ⟨oc11, od11, .func (PySem.W.fnOf "_law_refused" "_law_refused" (defArgs s__law_refused) (defBody s__law_refused) (defScope s__law_refused) .none kV11 dc11 pm11 an11 cd11 ct11), sl11⟩) (c11 : PySem.W.codeIn K cd11 "_law_refused" = true) (k11 : PySem.W.keepIn K (.ref f11) = true)
    (a11 : PySem.W.nsIn K mainGlobals "_law_refused" = some (some (.ref f11)))
    {f12 : Addr} {od12 an12 : Option Addr} {sl12 : Array (Option Value)} {oc12 kV12 dc12 pm12 cd12 ct12 : Value}
    (l12 : K.lookup f12 = some ⟨oc12, od12, .func (PySem.W.fnOf "_law_drawn" "_law_drawn" (defArgs s__law_drawn) (defBody s__law_drawn) (defScope s__law_drawn) .none kV12 dc12 pm12 an12 cd12 ct12), sl12⟩) (c12 : PySem.W.codeIn K cd12 "_law_drawn" = true) (k12 : PySem.W.keepIn K (.ref f12) = true)
    (a12 : PySem.W.nsIn K mainGlobals "_law_drawn" = some (some (.ref f12)))
    {f13 : Addr} {od13 an13 : Option Addr} {sl13 : Array (Option Value)} {oc13 kV13 dc13 pm13 cd13 ct13 : Value}
    (l13 : K.lookup f13 = some ⟨oc13, od13, .func (PySem.W.fnOf "law" "law" (defArgs s_law) (defBody s_law) (defScope s_law) .none kV13 dc13 pm13 an13 cd13 ct13), sl13⟩) (c13 : PySem.W.codeIn K cd13 "law" = true) (k13 : PySem.W.keepIn K (.ref f13) = true)
    (a13 : PySem.W.nsIn K mainGlobals "law" = some (some (.ref f13)))
    (z_abs : PySem.W.nsIn K mainGlobals "abs" = some none)
    (z_bool : PySem.W.nsIn K mainGlobals "bool" = some none)
    (z_int : PySem.W.nsIn K mainGlobals "int" = some none)
    (z_isinstance : PySem.W.nsIn K mainGlobals "isinstance" = some none)
    (z_len : PySem.W.nsIn K mainGlobals "len" = some none)
    (z_list : PySem.W.nsIn K mainGlobals "list" = some none)
    (z_max : PySem.W.nsIn K mainGlobals "max" = some none)
    (z_min : PySem.W.nsIn K mainGlobals "min" = some none)
    (z_range : PySem.W.nsIn K mainGlobals "range" = some none)
    (z_repr : PySem.W.nsIn K mainGlobals "repr" = some none)
    : ∃ fd : FuncData, (∀ (s : Shared) (v : Value), BindsTo s fd ⟨[v], []⟩ [("_law_script", v)]) ∧ ∀ base : Heap, K.In base → base.Ns mainGlobals mg → At callerA l.prog w K mg base CX0 7 fa ["_law_script"] fd (spLaw K) := by
  have e := hfa.symm.trans (PySem.W.mg_of X G a13)
  cases e
  let T : Txt K mg := {
    c_RingError := C_RingError, m_RingError := PySem.W.mg_of X G aC_RingError,
    c_InvalidLane := C_InvalidLane, m_InvalidLane := PySem.W.mg_of X G aC_InvalidLane,
    a_InvalidLane___init__ := f0, d_InvalidLane___init__ := _, F_InvalidLane___init__ := fun_mk (st := s_InvalidLane___init__) l0 c0 k0, b_InvalidLane___init__ := (fun_mk (st := s_InvalidLane___init__) l0 c0 k0).binds (ps := ["self", "word"]) (fun _ _ _ _ _ _ us hl => match us, hl with | [_, _], _ => rfl), k_InvalidLane___init__ := k0,
    x_InvalidLane := ⟨⟨_, _, _, _, _, _, _, _, _, _, _, _, _, _, _, xL_InvalidLane, by first | rfl | decide +kernel⟩, sa_InvalidLane, eC_InvalidLane, tC_InvalidLane, kC_InvalidLane⟩, X_InvalidLane := ⟨cl_InvalidLane, ga_InvalidLane, gg_InvalidLane, eC_InvalidLane, ca_InvalidLane, spec, takes, mo_InvalidLane⟩, f_InvalidLane := ⟨ga_InvalidLane, gg_InvalidLane, eC_InvalidLane, hC_InvalidLane⟩,
    n_InvalidLane := nw_InvalidLane, i_InvalidLane := iC_InvalidLane, t_InvalidLane := iT_InvalidLane, e_InvalidLane := PySem.W.exm_ref eC_InvalidLane hC_InvalidLane tC_InvalidLane sC_InvalidLane,
    c_InvalidRows := C_InvalidRows, m_InvalidRows := PySem.W.mg_of X G aC_InvalidRows,
    a_InvalidRows___init__ := f1, d_InvalidRows___init__ := _, F_InvalidRows___init__ := fun_mk (st := s_InvalidRows___init__) l1 c1 k1, b_InvalidRows___init__ := (fun_mk (st := s_InvalidRows___init__) l1 c1 k1).binds (ps := ["self", "at"]) (fun _ _ _ _ _ _ us hl => match us, hl with | [_, _], _ => rfl), k_InvalidRows___init__ := k1,
    x_InvalidRows := ⟨⟨_, _, _, _, _, _, _, _, _, _, _, _, _, _, _, xL_InvalidRows, by first | rfl | decide +kernel⟩, sa_InvalidRows, eC_InvalidRows, tC_InvalidRows, kC_InvalidRows⟩, X_InvalidRows := ⟨cl_InvalidRows, ga_InvalidRows, gg_InvalidRows, eC_InvalidRows, ca_InvalidRows, spec, takes, mo_InvalidRows⟩, f_InvalidRows := ⟨ga_InvalidRows, gg_InvalidRows, eC_InvalidRows, hC_InvalidRows⟩,
    n_InvalidRows := nw_InvalidRows, i_InvalidRows := iC_InvalidRows, t_InvalidRows := iT_InvalidRows, e_InvalidRows := PySem.W.exm_ref eC_InvalidRows hC_InvalidRows tC_InvalidRows sC_InvalidRows,
    c_InvalidSlip := C_InvalidSlip, m_InvalidSlip := PySem.W.mg_of X G aC_InvalidSlip,
    a_InvalidSlip___init__ := f2, d_InvalidSlip___init__ := _, F_InvalidSlip___init__ := fun_mk (st := s_InvalidSlip___init__) l2 c2 k2, b_InvalidSlip___init__ := (fun_mk (st := s_InvalidSlip___init__) l2 c2 k2).binds (ps := ["self", "word"]) (fun _ _ _ _ _ _ us hl => match us, hl with | [_, _], _ => rfl), k_InvalidSlip___init__ := k2,
    x_InvalidSlip := ⟨⟨_, _, _, _, _, _, _, _, _, _, _, _, _, _, _, xL_InvalidSlip, by first | rfl | decide +kernel⟩, sa_InvalidSlip, eC_InvalidSlip, tC_InvalidSlip, kC_InvalidSlip⟩, X_InvalidSlip := ⟨cl_InvalidSlip, ga_InvalidSlip, gg_InvalidSlip, eC_InvalidSlip, ca_InvalidSlip, spec, takes, mo_InvalidSlip⟩, f_InvalidSlip := ⟨ga_InvalidSlip, gg_InvalidSlip, eC_InvalidSlip, hC_InvalidSlip⟩,
    n_InvalidSlip := nw_InvalidSlip, i_InvalidSlip := iC_InvalidSlip, t_InvalidSlip := iT_InvalidSlip, e_InvalidSlip := PySem.W.exm_ref eC_InvalidSlip hC_InvalidSlip tC_InvalidSlip sC_InvalidSlip,
    c_Slip := C_Slip, m_Slip := PySem.W.mg_of X G aC_Slip,
    C_Slip := ⟨pg_Slip, hd_Slip, po_Slip, sa_Slip⟩,
    n_Slip_kind := n_kind_Slip,
    n_Slip_turn := n_turn_Slip,
    n_Slip_machine := n_machine_Slip,
    n_Slip_lane := n_lane_Slip,
    I_Slip := ⟨cl_Slip, tC_Slip, ca_Slip, spec, takes, mo_Slip⟩, N_Slip := ⟨mo_N_Slip, mo_S_Slip, mo_T_Slip, mo_L_Slip, mo_I_Slip⟩,
    a_Slip___init__ := f3, d_Slip___init__ := _, F_Slip___init__ := fun_mk (st := s_Slip___init__) l3 c3 k3, b_Slip___init__ := (fun_mk (st := s_Slip___init__) l3 c3 k3).binds (ps := ["self", "kind", "turn", "machine", "lane"]) (fun _ _ _ _ _ _ us hl => match us, hl with | [_, _, _, _, _], _ => rfl), k_Slip___init__ := k3,
    M_Slip := ⟨mk_Slip, a3, i3, kc_Slip⟩,
    a_Slip___eq__ := f4, d_Slip___eq__ := _, F_Slip___eq__ := fun_mk (st := s_Slip___eq__) l4 c4 k4, b_Slip___eq__ := (fun_mk (st := s_Slip___eq__) l4 c4 k4).binds (ps := ["self", "other"]) (fun _ _ _ _ _ _ us hl => match us, hl with | [_, _], _ => rfl), k_Slip___eq__ := k4,
    O_Slip := ⟨a4, i4, nE_Slip, mo_Slip⟩,
    kit_InvalidSlip_RingError := kit_InvalidSlip_RingError,
    kit_InvalidSlip_InvalidLane := kit_InvalidSlip_InvalidLane,
    kit_InvalidSlip_InvalidRows := kit_InvalidSlip_InvalidRows,
    A_KINDS := A_KINDS, m_KINDS := PySem.W.mg_of X G a_KINDS, s_KINDS := fun H => .inr ⟨_, _, _, l_KINDS, rfl, rfl, by show 2 ≤ sizeLine; decide, by repeat (first | exact .nil | refine .cons ⟨_, rfl⟩ ?_)⟩,
    a_is_whole := f5, d_is_whole := _, F_is_whole := fun_mk (st := s_is_whole) l5 c5 k5, b_is_whole := (fun_mk (st := s_is_whole) l5 c5 k5).binds (ps := ["value"]) (fun _ _ _ _ _ _ us hl => match us, hl with | [_], _ => rfl), k_is_whole := k5,
    m_is_whole := PySem.W.mg_of X G a5,
    a_is_number := f6, d_is_number := _, F_is_number := fun_mk (st := s_is_number) l6 c6 k6, b_is_number := (fun_mk (st := s_is_number) l6 c6 k6).binds (ps := ["value"]) (fun _ _ _ _ _ _ us hl => match us, hl with | [_], _ => rfl), k_is_number := k6,
    m_is_number := PySem.W.mg_of X G a6,
    a__law_box := f7, d__law_box := _, F__law_box := fun_mk (st := s__law_box) l7 c7 k7, b__law_box := (fun_mk (st := s__law_box) l7 c7 k7).binds (ps := ["_law_script", "_law_k", "_law_own"]) (fun _ _ _ _ _ _ us hl => match us, hl with | [_, _, _], _ => rfl), k__law_box := k7,
    m__law_box := PySem.W.mg_of X G a7,
    a__law_take := f8, d__law_take := _, F__law_take := fun_mk (st := s__law_take) l8 c8 k8, b__law_take := (fun_mk (st := s__law_take) l8 c8 k8).binds (ps := ["_law_box_here", "_law_many"]) (fun _ _ _ _ _ _ us hl => match us, hl with | [_, _], _ => rfl), k__law_take := k8,
    m__law_take := PySem.W.mg_of X G a8,
    a__law_pick := f9, d__law_pick := _, F__law_pick := fun_mk (st := s__law_pick) l9 c9 k9, b__law_pick := (fun_mk (st := s__law_pick) l9 c9 k9).binds (ps := ["_law_box_here", "_law_items"]) (fun _ _ _ _ _ _ us hl => match us, hl with | [_, _], _ => rfl), k__law_pick := k9,
    m__law_pick := PySem.W.mg_of X G a9,
    a__law_mixed := f10, d__law_mixed := _, F__law_mixed := fun_mk (st := s__law_mixed) l10 c10 k10, b__law_mixed := (fun_mk (st := s__law_mixed) l10 c10 k10).binds (ps := ["_law_box_here", "_law_items"]) (fun _ _ _ _ _ _ us hl => match us, hl with | [_, _], _ => rfl), k__law_mixed := k10,
    m__law_mixed := PySem.W.mg_of X G a10,
    a__law_refused := f11, d__law_refused := _, F__law_refused := fun_mk (st := s__law_refused) l11 c11 k11, b__law_refused := (fun_mk (st := s__law_refused) l11 c11 k11).binds (ps := ["_law_some"]) (fun _ _ _ _ _ _ us hl => match us, hl with | [_], _ => rfl), k__law_refused := k11,
    m__law_refused := PySem.W.mg_of X G a11,
    a__law_drawn := f12, d__law_drawn := _, F__law_drawn := fun_mk (st := s__law_drawn) l12 c12 k12, b__law_drawn := (fun_mk (st := s__law_drawn) l12 c12 k12).binds (ps := ["_law_box_here"]) (fun _ _ _ _ _ _ us hl => match us, hl with | [_], _ => rfl), k__law_drawn := k12,
    m__law_drawn := PySem.W.mg_of X G a12,
    a_law := fa, d_law := _, F_law := fun_mk (st := s_law) l13 c13 k13, b_law := (fun_mk (st := s_law) l13 c13 k13).binds (ps := ["_law_script"]) (fun _ _ _ _ _ _ us hl => match us, hl with | [_], _ => rfl), k_law := k13,
    m_law := PySem.W.mg_of X G a13,
    z_abs := PySem.W.mg_none_of X G z_abs, z_bool := PySem.W.mg_none_of X G z_bool, z_int := PySem.W.mg_none_of X G z_int, z_isinstance := PySem.W.mg_none_of X G z_isinstance, z_len := PySem.W.mg_none_of X G z_len, z_list := PySem.W.mg_none_of X G z_list, z_max := PySem.W.mg_none_of X G z_max, z_min := PySem.W.mg_none_of X G z_min, z_range := PySem.W.mg_none_of X G z_range, z_repr := PySem.W.mg_none_of X G z_repr }
  exact ⟨PySem.W.fnOf "law" "law" (defArgs s_law) (defBody s_law) (defScope s_law) .none kV13 dc13 pm13 an13 cd13 ct13, fun s v => .of_eq rfl, fun base _ _ => ok_law T⟩
end K14
open PySem PySem.W PyProof.Rows
set_option maxHeartbeats 0 in
theorem PySem.Challenge.cw_ringsums_k14_slips_made_and_refused_holds : PySem.Challenge.rw_ringsums_k14_slips_made_and_refused.Holds := by
  w_on; o_law; k_head; (case hw => w_witness2)
  k_fill
  refine Rs.walk_at_of (l := PySem.Challenge.rw_ringsums_k14_slips_made_and_refused) (n := 63) (k := 7) (x := "_law_script") (sp := fun w => K14.spLaw _) rfl (by decide) rfl ⟨rfl, by decide, by decide⟩ (fun w h Y => PySem.W.kIn_of Y) ?F (fun _ _ a ns hl hS => ⟨a, ns, rfl, hS, hl, fun _ => rfl⟩)
  case F =>
    intro w mg fa h KX G hmg
    refine' K14.all_mk KX G hmg ?aC_RingError ?aC_InvalidLane ?xL_InvalidLane ?sa_InvalidLane ?ga_InvalidLane ?gg_InvalidLane ?nw_InvalidLane ?ca_InvalidLane ?kC_InvalidLane ?eC_InvalidLane ?tC_InvalidLane ?hC_InvalidLane ?sC_InvalidLane ?mo_InvalidLane ?cl_InvalidLane ?l0 ?c0 ?k0 ?iC_InvalidLane ?iT_InvalidLane ?aC_InvalidRows ?xL_InvalidRows ?sa_InvalidRows ?ga_InvalidRows ?gg_InvalidRows ?nw_InvalidRows ?ca_InvalidRows ?kC_InvalidRows ?eC_InvalidRows ?tC_InvalidRows ?hC_InvalidRows ?sC_InvalidRows ?mo_InvalidRows ?cl_InvalidRows ?l1 ?c1 ?k1 ?iC_InvalidRows ?iT_InvalidRows ?aC_InvalidSlip ?xL_InvalidSlip ?sa_InvalidSlip ?ga_InvalidSlip ?gg_InvalidSlip ?nw_InvalidSlip ?ca_InvalidSlip ?kC_InvalidSlip ?eC_InvalidSlip ?tC_InvalidSlip ?hC_InvalidSlip ?sC_InvalidSlip ?mo_InvalidSlip ?cl_InvalidSlip ?l2 ?c2 ?k2 ?iC_InvalidSlip ?iT_InvalidSlip ?aC_Slip ?pg_Slip ?hd_Slip ?po_Slip ?sa_Slip ?mk_Slip ?kc_Slip ?n_kind_Slip ?n_turn_Slip ?n_machine_Slip ?n_lane_Slip ?cl_Slip ?tC_Slip ?ca_Slip ?mo_Slip ?nE_Slip ?mo_N_Slip ?mo_S_Slip ?mo_T_Slip ?mo_L_Slip ?mo_I_Slip ?l3 ?c3 ?k3 ?a3 ?i3 ?l4 ?c4 ?k4 ?a4 ?i4 ?spec ?takes ?kit_InvalidSlip_RingError ?kit_InvalidSlip_InvalidLane ?kit_InvalidSlip_InvalidRows ?a_KINDS ?l_KINDS ?l5 ?c5 ?k5 ?a5 ?l6 ?c6 ?k6 ?a6 ?l7 ?c7 ?k7 ?a7 ?l8 ?c8 ?k8 ?a8 ?l9 ?c9 ?k9 ?a9 ?l10 ?c10 ?k10 ?a10 ?l11 ?c11 ?k11 ?a11 ?l12 ?c12 ?k12 ?a12 ?l13 ?c13 ?k13 ?a13 ?z_abs ?z_bool ?z_int ?z_isinstance ?z_len ?z_list ?z_max ?z_min ?z_range ?z_repr
    (case aC_RingError => k_is)
    (case aC_InvalidLane => k_is)
    (case aC_InvalidRows => k_is)
    (case aC_InvalidSlip => k_is)
    (case aC_Slip => k_is)
    (case a_KINDS => k_is)
    (case iC_InvalidLane => k_is)
    (case iC_InvalidRows => k_is)
    (case iC_InvalidSlip => k_is)
    (case a3 => k_is)
    (case a4 => k_is)
    (case a5 => k_is)
    (case a6 => k_is)
    (case a7 => k_is)
    (case a8 => k_is)
    (case a9 => k_is)
    (case a10 => k_is)
    (case a11 => k_is)
    (case a12 => k_is)
    (case a13 => k_is)
    (case xL_InvalidLane => k_is)
    (case l0 => k_is)
    (case xL_InvalidRows => k_is)
    (case l1 => k_is)
    (case xL_InvalidSlip => k_is)
    (case l2 => k_is)
    (case l3 => k_is)
    (case l4 => k_is)
    (case l_KINDS => k_is)
    (case l5 => k_is)
    (case l6 => k_is)
    (case l7 => k_is)
    (case l8 => k_is)
    (case l9 => k_is)
    (case l10 => k_is)
    (case l11 => k_is)
    (case l12 => k_is)
    (case l13 => k_is)
    (case sa_InvalidLane => k_is)
    (case ga_InvalidLane => k_is)
    (case gg_InvalidLane => k_is)
    (case nw_InvalidLane => k_is)
    (case ca_InvalidLane => k_is)
    (case kC_InvalidLane => k_is)
    (case eC_InvalidLane => k_is)
    (case tC_InvalidLane => first | rfl | k_is)
    (case hC_InvalidLane => k_is)
    (case sC_InvalidLane => first | rfl | k_is)
    (case mo_InvalidLane => first | rfl | k_is)
    (case cl_InvalidLane => first | rfl | k_is)
    (case c0 => k_is)
    (case k0 => k_is)
    (case iT_InvalidLane => k_is)
    (case sa_InvalidRows => k_is)
    (case ga_InvalidRows => k_is)
    (case gg_InvalidRows => k_is)
    (case nw_InvalidRows => k_is)
    (case ca_InvalidRows => k_is)
    (case kC_InvalidRows => k_is)
    (case eC_InvalidRows => k_is)
    (case tC_InvalidRows => first | rfl | k_is)
    (case hC_InvalidRows => k_is)
    (case sC_InvalidRows => first | rfl | k_is)
    (case mo_InvalidRows => first | rfl | k_is)
    (case cl_InvalidRows => first | rfl | k_is)
    (case c1 => k_is)
    (case k1 => k_is)
    (case iT_InvalidRows => k_is)
    (case sa_InvalidSlip => k_is)
    (case ga_InvalidSlip => k_is)
    (case gg_InvalidSlip => k_is)
    (case nw_InvalidSlip => k_is)
    (case ca_InvalidSlip => k_is)
    (case kC_InvalidSlip => k_is)
    (case eC_InvalidSlip => k_is)
    (case tC_InvalidSlip => first | rfl | k_is)
    (case hC_InvalidSlip => k_is)
    (case sC_InvalidSlip => first | rfl | k_is)
    (case mo_InvalidSlip => first | rfl | k_is)
    (case cl_InvalidSlip => first | rfl | k_is)
    (case c2 => k_is)
    (case k2 => k_is)
    (case iT_InvalidSlip => k_is)
    (case pg_Slip => k_is)
    (case hd_Slip => k_is)
    (case po_Slip => k_is)
    (case sa_Slip => k_is)
    (case mk_Slip => k_is)
    (case kc_Slip => k_is)
    (case n_kind_Slip => k_is)
    (case n_turn_Slip => k_is)
    (case n_machine_Slip => k_is)
    (case n_lane_Slip => k_is)
    (case cl_Slip => first | rfl | k_is)
    (case tC_Slip => first | rfl | k_is)
    (case ca_Slip => k_is)
    (case mo_Slip => first | rfl | k_is)
    (case nE_Slip => k_is)
    (case mo_N_Slip => first | rfl | k_is)
    (case mo_S_Slip => first | rfl | k_is)
    (case mo_T_Slip => first | rfl | k_is)
    (case mo_L_Slip => first | rfl | k_is)
    (case mo_I_Slip => first | rfl | k_is)
    (case c3 => k_is)
    (case k3 => k_is)
    (case i3 => k_is)
    (case c4 => k_is)
    (case k4 => k_is)
    (case i4 => k_is)
    (case spec => first | rfl | k_is)
    (case takes => first | rfl | k_is)
    (case kit_InvalidSlip_RingError => first | rfl | k_is)
    (case kit_InvalidSlip_InvalidLane => first | rfl | k_is)
    (case kit_InvalidSlip_InvalidRows => first | rfl | k_is)
    (case c5 => k_is)
    (case k5 => k_is)
    (case c6 => k_is)
    (case k6 => k_is)
    (case c7 => k_is)
    (case k7 => k_is)
    (case c8 => k_is)
    (case k8 => k_is)
    (case c9 => k_is)
    (case k9 => k_is)
    (case c10 => k_is)
    (case k10 => k_is)
    (case c11 => k_is)
    (case k11 => k_is)
    (case c12 => k_is)
    (case k12 => k_is)
    (case c13 => k_is)
    (case k13 => k_is)
    (case z_abs => k_is)
    (case z_bool => k_is)
    (case z_int => k_is)
    (case z_isinstance => k_is)
    (case z_len => k_is)
    (case z_list => k_is)
    (case z_max => k_is)
    (case z_min => k_is)
    (case z_range => k_is)
    (case z_repr => k_is)
