import PyProof.Rows.All
import Wide.All
import OpenK.AllK
import Wide.FinOn
import HandS.ForMost
import HandS.Wide
import HandS.Conv
import HandS.IsInst
import HandS.Walk
import HandS.TupAny
import HandS.TupMul
import HandS.TryOnly
import HandS.Style
import HandS.Flow
import HandS.Deep
import HandS.ForExc
import HandS.ExcInit
import HandS.ExcIs
import HandS.ExcField
import HandS.Defaults
import HandS.RaiseMore
import KE.KExcIs
import PySem.Challenge.RW_ringsums_k03_forms_refused
set_option Elab.async false
set_option linter.all false
set_option maxRecDepth 100000
set_option maxHeartbeats 4000000
namespace Rs
open PySem PySem.Spec PyProof.Rows L2

/-! ### what never changes: tuples, instances, their dicts -/
def frozen : HO → Prop
  | .tup _ => True
  | .ins _ _ _ => True
  | .own _ => True
  | .frz _ _ => True
  | _ => False
def Fz (H H' : Hp) : Prop := ∀ a o, frozen o → H a = some o → H' a = some o
theorem Fz.refl (H : Hp) : Fz H H := fun _ _ _ h => h
theorem Fz.trans {H H1 H2 : Hp} (a : Fz H H1) (b : Fz H1 H2) : Fz H H2 := fun x o f h => b x o f (a x o f h)
theorem Fz.of_same {H H' : Hp} (s : Same H H') : Fz H H' := fun a o _ h => s a o h
theorem same_new {H : Hp} {p : Addr} {o : HO} (h : H p = none) : Same H (upd H p o) := fun b x e => by
  rw [upd_ne (ne_of_none e h)]
  exact e
theorem Fz.new {H : Hp} {p : Addr} {o : HO} (h : H p = none) : Fz H (upd H p o) := Fz.of_same (same_new h)
theorem Fz.lst {H : Hp} {p : Addr} {xs : List V} {o : HO} (h : H p = some (.lst xs)) : Fz H (upd H p o) := fun a u f e => by
  have : a ≠ p := by
    rintro rfl
    rw [h] at e
    cases e
    exact f
  rw [upd_ne this]
  exact e

/-! ### data of tuples -/
mutual
inductive Dt (K : PySem.W.Frag) (H : Hp) : V → PyData → Prop
  | non : Dt K H .non .none
  | bl (b : Bool) : Dt K H (.bl b) (.bool b)
  | int (i : Int) : Dt K H (.int i) (.int i)
  | str (x : Str) : Dt K H (.str x) (.str x)
  | tup {a : Addr} {xs : List V} {ds : List PyData} : SqT K H a xs → DtAll K H xs ds → Dt K H (.ref a) (.tuple ds)
inductive DtAll (K : PySem.W.Frag) (H : Hp) : List V → List PyData → Prop
  | nil : DtAll K H [] []
  | cons {v : V} {vs : List V} {d : PyData} {ds : List PyData} : Dt K H v d → DtAll K H vs ds → DtAll K H (v :: vs) (d :: ds)
end
theorem Fz.sqT {K : PySem.W.Frag} {H H' : Hp} {a : Addr} {xs : List V} (e : Fz H H') (h : SqT K H a xs) : SqT K H' a xs := by
  rcases h with (h | ⟨o, h⟩) | h
  · exact .inl (.inl (e _ _ trivial h))
  · exact .inl (.inr ⟨o, e _ _ trivial h⟩)
  · exact .inr h
mutual
theorem Dt.mono {K : PySem.W.Frag} {H H' : Hp} (e : Fz H H') : ∀ {v : V} {d : PyData}, Dt K H v d → Dt K H' v d
  | _, _, .non => .non
  | _, _, .bl b => .bl b
  | _, _, .int i => .int i
  | _, _, .str x => .str x
  | _, _, .tup h hs => .tup (e.sqT h) (DtAll.mono e hs)
theorem DtAll.mono {K : PySem.W.Frag} {H H' : Hp} (e : Fz H H') : ∀ {v : List V} {d : List PyData}, DtAll K H v d → DtAll K H' v d
  | _, _, .nil => .nil
  | _, _, .cons h hs => .cons (h.mono e) (DtAll.mono e hs)
end
mutual
theorem Dt.dp {K : PySem.W.Frag} {H : Hp} : ∀ {v : V} {d : PyData}, Dt K H v d → Dp K H v d
  | _, _, .non => .non
  | _, _, .bl b => .bl b
  | _, _, .int i => .int i
  | _, _, .str x => .str x
  | _, _, .tup h hs => .tup h (DtAll.dp hs)
theorem DtAll.dp {K : PySem.W.Frag} {H : Hp} : ∀ {v : List V} {d : List PyData}, DtAll K H v d → DpAll K H v d
  | _, _, .nil => .nil
  | _, _, .cons h hs => .cons h.dp (DtAll.dp hs)
end
theorem DtAll.length {K : PySem.W.Frag} {H : Hp} : ∀ {v : List V} {d : List PyData}, DtAll K H v d → v.length = d.length
  | _, _, .nil => rfl
  | _, _, .cons _ hs => congrArg (· + 1) hs.length
theorem DtAll.append {K : PySem.W.Frag} {H : Hp} : ∀ {v w : List V} {d e : List PyData}, DtAll K H v d → DtAll K H w e → DtAll K H (v ++ w) (d ++ e)
  | _, _, _, _, .nil, k => k
  | _, _, _, _, .cons h hs, k => .cons h (hs.append k)
theorem DtAll.get {K : PySem.W.Frag} {H : Hp} : ∀ {v : List V} {d : List PyData} {i : Nat} {x : PyData}, DtAll K H v d → d[i]? = some x → ∃ y, v[i]? = some y ∧ Dt K H y x
  | _, _, i, x, .nil, e => by simp at e
  | _, _, 0, x, .cons h _, e => ⟨_, rfl, by
      have : _ = x := Option.some.inj e
      exact this ▸ h⟩
  | _, _, i + 1, x, .cons _ hs, e => by
    have e' := e
    simp only [List.getElem?_cons_succ] at e' ⊢
    exact hs.get e'
theorem DtAll.getV {K : PySem.W.Frag} {H : Hp} : ∀ {v : List V} {d : List PyData} {i : Nat} {y : V}, DtAll K H v d → v[i]? = some y → ∃ x, d[i]? = some x ∧ Dt K H y x
  | _, _, i, x, .nil, e => by simp at e
  | _, _, 0, x, .cons h _, e => ⟨_, rfl, by
      have : _ = x := Option.some.inj e
      exact this ▸ h⟩
  | _, _, i + 1, x, .cons _ hs, e => by
    have e' := e
    simp only [List.getElem?_cons_succ] at e' ⊢
    exact hs.getV e'

/-! ### the box of draws -/
structure BoxI (x y z : Int) : Prop where
  x0 : 0 ≤ x
  y1 : 1 ≤ y
  y2 : y ≤ 2147483629
def boxL (x y z : Int) : List V := [.int x, .int y, .int z]
def Box (H : Hp) (b : Addr) : Prop := ∃ x y z, H b = some (.lst (boxL x y z)) ∧ BoxI x y z
/-- all but the list at b is as it was -/
def But (b : Addr) (H H' : Hp) : Prop := ∀ a o, a ≠ b → H a = some o → H' a = some o
theorem But.refl (b : Addr) (H : Hp) : But b H H := fun _ _ _ h => h
theorem But.trans {b : Addr} {H H1 H2 : Hp} (x : But b H H1) (y : But b H1 H2) : But b H H2 := fun a o n h => y a o n (x a o n h)
theorem But.of_same {b : Addr} {H H' : Hp} (s : Same H H') : But b H H' := fun a o _ h => s a o h
theorem But.upd {b : Addr} {H H' : Hp} {o : HO} (s : But b H H') : But b H (upd H' b o) := fun a u n h => by
  rw [upd_ne n]
  exact s a u n h
theorem Box.same {b : Addr} {H H' : Hp} (x : Box H b) (s : Same H H') : Box H' b := by
  obtain ⟨x, y, z, h, i⟩ := x
  exact ⟨x, y, z, s _ _ h, i⟩
theorem Box.fz {b : Addr} {H H' : Hp} (x : Box H b) (s : But b H H') : Fz H H' := fun a o f h => by
  refine s a o ?_ h
  rintro rfl
  obtain ⟨x, y, z, h', i⟩ := x
  rw [h'] at h
  cases h
  exact f
theorem Box.ne_none {b p : Addr} {H : Hp} (x : Box H b) (h : H p = none) : p ≠ b := by
  rintro rfl
  obtain ⟨x, y, z, h', i⟩ := x
  rw [h] at h'
  cases h'
theorem ifB {b : Bool} {A B : Prop} (h1 : b = true → A) (h2 : b = false → B) : if b = true then A else B := by
  cases b with
  | true => rw [if_pos rfl]; exact h1 rfl
  | false => rw [if_neg Bool.false_ne_true]; exact h2 rfl
theorem ifD {c A B : Prop} [Decidable c] (h1 : c → A) (h2 : ¬ c → B) : if decide c = true then A else B := ifB (fun e => h1 (of_decide_eq_true e)) (fun e => h2 (of_decide_eq_false e))
theorem ifN {c A B : Prop} [Decidable c] (h1 : ¬ c → A) (h2 : c → B) : if (!decide c) = true then A else B := by
  by_cases h : c
  · rw [decide_eq_true h]; exact h2 h
  · rw [decide_eq_false h]; exact h1 h
theorem ifT {b : Bool} {A B : Prop} (e : b = true) (h1 : A) : if b = true then A else B := by rw [if_pos e]; exact h1
theorem ifF {b : Bool} {A B : Prop} (e : b = false) (h1 : B) : if b = true then A else B := by rw [e, if_neg Bool.false_ne_true]; exact h1
theorem szL {n : Nat} (h : n ≤ 1000) : n ≤ sizeLine := Nat.le_trans h (by decide)
theorem szl {n : Nat} (h : n ≤ 1000) : n < sizeLine := Nat.lt_of_le_of_lt h (by decide)
theorem atI_ok {xs : List V} {i : Int} {j : Nat} {v : V} (h0 : 0 ≤ i) (e : i.toNat = j) (h : xs[j]? = some v) : atI xs i = some v := at_of (by omega) h
theorem ints_at {ns : List Int} {k : Int} (h0 : 0 ≤ k) (h1 : k < ns.length) : ∃ z, atI (ns.map V.int) k = some (.int z) := by
  have h2 : k.toNat < ns.length := by omega
  exact ⟨ns[k.toNat], atI_ok h0 rfl (by rw [List.getElem?_map, List.getElem?_eq_getElem h2]; rfl)⟩
theorem range_succ_map {α : Type} (f : Nat → α) (i : Nat) : (List.range (i + 1)).map f = (List.range i).map f ++ [f i] := by
  rw [List.range_succ, List.map_append]; rfl
theorem DtAll.snoc {K : PySem.W.Frag} {H : Hp} {v : List V} {d : List PyData} {x : V} {y : PyData} (h : DtAll K H v d) (k : Dt K H x y) : DtAll K H (v ++ [x]) (d ++ [y]) := h.append (.cons k .nil)
theorem same_lst {H H' : Hp} {p : Addr} {o : HO} (s : Same H H') (n : H p = none) : Same H (upd H' p o) := fun a u e => by
  rw [upd_ne (ne_of_none e n)]
  exact s a u e
theorem natAbs_abs {i : Int} : 0 ≤ (if i < 0 then -i else i) := by split <;> omega
theorem pick2 (b : Bool) (u v : Int) : atI [.int u, .int v] (if b = true then 1 else 0) = some (V.int (if b = true then v else u)) := by
  cases b <;> rfl
theorem ite_ge0 {b : Bool} {u v : Int} (h1 : 0 ≤ u) (h2 : 0 ≤ v) : 0 ≤ (if b = true then v else u) := by cases b <;> assumption
theorem mem_at {xs : List V} {k : Int} (h0 : 0 ≤ k) (h1 : k < xs.length) : ∃ v, v ∈ xs ∧ atI xs k = some v := by
  have h2 : k.toNat < xs.length := by omega
  exact ⟨xs[k.toNat], List.getElem_mem h2, atI_ok h0 rfl (List.getElem?_eq_getElem h2)⟩
/-! reading tuples of data -/
def atD (ds : List PyData) (i : Int) : Option PyData := (ixN ds.length i).bind fun j => ds[j]?
theorem DtAll.at {K : PySem.W.Frag} {H : Hp} {xs : List V} {ds : List PyData} {i : Int} {d : PyData} (h : DtAll K H xs ds) (e : atD ds i = some d) : ∃ v, atI xs i = some v ∧ Dt K H v d := by
  unfold atD at e
  unfold atI
  rw [h.length]
  cases q : ixN ds.length i with
  | none => rw [q] at e; cases e
  | some j =>
    rw [q] at e
    exact h.get e
theorem rix_dt {K : PySem.W.Frag} {H : Hp} {v : V} {i : Int} {ds : List PyData} {d : PyData} {Q : VK} (h : Dt K H v (.tuple ds)) (e : atD ds i = some d) (q : ∀ y, Dt K H y d → Q y H) : rIxT K v (.int i) H Q := by
  cases h with
  | tup hs ha =>
    obtain ⟨y, h1, h2⟩ := ha.at e
    exact ⟨_, _, _, _, rfl, rfl, hs, h1, q y h2⟩
theorem Dt.int_eq {K : PySem.W.Frag} {H : Hp} {v : V} {i : Int} (h : Dt K H v (.int i)) : v = .int i := by cases h; rfl
theorem Dt.str_eq {K : PySem.W.Frag} {H : Hp} {v : V} {i : Str} (h : Dt K H v (.str i)) : v = .str i := by cases h; rfl
theorem atD_nat {ds : List PyData} {j : Nat} {d : PyData} (e : ds[j]? = some d) : atD ds ((j : Nat) : Int) = some d := by
  have h := (List.getElem?_eq_some_iff.mp e).1
  unfold atD ixN
  rw [if_pos (by omega), if_pos (by omega)]
  exact e
theorem atD_last {ds : List PyData} {d : PyData} (h : 0 < ds.length) (e : ds[ds.length - 1]? = some d) : atD ds (-1) = some d := by
  unfold atD ixN
  rw [if_neg (by omega), if_pos (by omega)]
  show ds[((-1 : Int) + ds.length).toNat]? = some d
  rw [show ((-1 : Int) + ds.length).toNat = ds.length - 1 by omega]
  exact e
def tyD : PyData → String
  | .none => "NoneType"
  | .bool _ => "bool"
  | .int _ => "int"
  | .str _ => "str"
  | .list _ => "list"
  | .tuple _ => "tuple"
  | .dict _ => "dict"
theorem sqT_ty {K : PySem.W.Frag} {H : Hp} {a : Addr} {xs : List V} (h : SqT K H a xs) : TyX K H (.ref a) (.type "tuple") := by
  rcases h with (h | ⟨o, h⟩) | ⟨o, its, n, h1, h2, _⟩
  · exact .base (.tup h)
  · exact .fTuple h
  · exact .kTuple h1 h2
theorem Dt.ty {K : PySem.W.Frag} {H : Hp} {v : V} {d : PyData} (h : Dt K H v d) : TyX K H v (.type (tyD d)) := by
  cases h with
  | non => exact .base .non
  | bl b => exact .base (.bl b)
  | int i => exact .base (.int i)
  | str x => exact .base (.str x)
  | tup h _ => exact sqT_ty h
theorem neF {a b : Int} (h : a = b) : (!decide (V.int a = V.int b)) = false := by rw [h]; simp
theorem Dt.len {K : PySem.W.Frag} {H : Hp} {a : Addr} {ds : List PyData} (h : Dt K H (.ref a) (.tuple ds)) : ∃ xs, SqT K H a xs ∧ xs.length = ds.length ∧ DtAll K H xs ds := by
  cases h with
  | tup h hs => exact ⟨_, h, hs.length, hs⟩

structure okD (k : Nat) (d : PyData) : Prop where
  lay : d.canLay0 = true
  dep : d.depth ≤ k
theorem okD.mono {k l : Nat} {d : PyData} (h : okD k d) (e : k ≤ l) : okD l d := ⟨h.lay, Nat.le_trans h.dep e⟩
theorem okD_all {k : Nat} : ∀ {ds : List PyData}, (∀ d ∈ ds, okD k d) → PyData.canLayAll0 ds = true ∧ PyData.depthAll ds ≤ k
  | [], _ => ⟨rfl, Nat.zero_le _⟩
  | d :: ds, h => by
    have h1 := h d List.mem_cons_self
    have h2 := okD_all (ds := ds) fun x hx => h x (List.mem_cons_of_mem _ hx)
    refine ⟨?_, ?_⟩
    · show (PyData.canLay0 d && PyData.canLayAll0 ds) = true
      rw [h1.lay, h2.1]; rfl
    · show max (PyData.depth d) (PyData.depthAll ds) ≤ k
      exact Nat.max_le.mpr ⟨h1.dep, h2.2⟩
theorem okD.tuple {k : Nat} {ds : List PyData} (h : ∀ d ∈ ds, okD k d) : okD (k + 1) (.tuple ds) :=
  have q := okD_all h
  ⟨q.1, Nat.succ_le_succ q.2⟩
theorem okD.list {k : Nat} {ds : List PyData} (h : ∀ d ∈ ds, okD k d) : okD (k + 1) (.list ds) :=
  have q := okD_all h
  ⟨q.1, Nat.succ_le_succ q.2⟩
theorem okD.shaped {k : Nat} {d : PyData} (h : okD k d) (hk : k ≤ 64) : SeqAt.shaped d = true := by
  unfold SeqAt.shaped
  rw [h.lay, decide_eq_true (Nat.le_trans h.dep hk)]; rfl
theorem eqv_self {k : Nat} {d : PyData} (h : okD k d) : PyData.eqv d d = true := SeqAt.eqv_refl d h.lay
theorem rne_dt {K : PySem.W.Frag} {H : Hp} {x y : V} {k : Nat} {d : PyData} {Q : VK} (hx : Dt K H x d) (hy : Dt K H y d) (o : okD k d) (hk : k ≤ 64) (q : Q (.bl false) H) : rNeD K x y H Q :=
  ⟨d, d, hx.dp, hy.dp, o.shaped hk, o.shaped hk, by rw [eqv_self o]; exact q⟩
theorem req_dt {K : PySem.W.Frag} {H : Hp} {x y : V} {k : Nat} {d : PyData} {Q : VK} (hx : Dt K H x d) (hy : Dt K H y d) (o : okD k d) (hk : k ≤ 64) (q : Q (.bl true) H) : rEqD K x y H Q :=
  ⟨d, d, hx.dp, hy.dp, o.shaped hk, o.shaped hk, by rw [eqv_self o]; exact q⟩

theorem atD0 {ds : List PyData} {d : PyData} (e : ds[0]? = some d) : atD ds 0 = some d := atD_nat (j := 0) e
theorem atD1 {ds : List PyData} {d : PyData} (e : ds[1]? = some d) : atD ds 1 = some d := atD_nat (j := 1) e
theorem atD2 {ds : List PyData} {d : PyData} (e : ds[2]? = some d) : atD ds 2 = some d := atD_nat (j := 2) e
theorem atD3 {ds : List PyData} {d : PyData} (e : ds[3]? = some d) : atD ds 3 = some d := atD_nat (j := 3) e
theorem atDi {ds : List PyData} {d : PyData} {i : Int} {j : Nat} (h : i = (j : Int)) (e : ds[j]? = some d) : atD ds i = some d := by
  subst h
  exact atD_nat e

theorem floor_step {a b n : Int} (h : 0 < n) : b / n ≤ (a + b) / n - a / n ∧ (a + b) / n - a / n ≤ b / n + 1 := by
  have ha := Int.emod_add_mul_ediv a n
  have hb := Int.emod_add_mul_ediv b n
  have a0 := Int.emod_nonneg a (show n ≠ 0 by omega)
  have a1 := Int.emod_lt_of_pos a h
  have b0 := Int.emod_nonneg b (show n ≠ 0 by omega)
  have b1 := Int.emod_lt_of_pos b h
  have e : (a + b) / n = a / n + b / n + (a % n + b % n) / n := by
    have : a + b = (a % n + b % n) + n * (a / n + b / n) := by rw [Int.mul_add]; omega
    rw [this, Int.add_mul_ediv_left _ _ (by omega), Int.add_comm]
  have q0 : 0 ≤ (a % n + b % n) / n := Int.ediv_nonneg (by omega) (by omega)
  have q1 : (a % n + b % n) / n < 2 := by
    apply Int.ediv_lt_of_lt_mul h
    omega
  omega

theorem take_snoc {α : Type} {l : List α} {i : Nat} {x : α} (h : l[i]? = some x) : l.take (i + 1) = l.take i ++ [x] := by
  rw [List.take_add_one, h]; rfl
theorem map_int_get {acc : List Int} {i : Nat} {x : V} (h : (acc.map V.int)[i]? = some x) : ∃ z, acc[i]? = some z ∧ x = .int z := by
  rw [List.getElem?_map] at h
  cases e : acc[i]? with
  | none => rw [e] at h; cases h
  | some z =>
    rw [e] at h
    exact ⟨z, rfl, (Option.some.inj h).symm⟩

theorem Dt.ix {K : PySem.W.Frag} {H : Hp} {v : V} {i : Int} {ds : List PyData} {d : PyData} (h : Dt K H v (.tuple ds)) (e : atD ds i = some d) : ∃ a xs y, v = .ref a ∧ SqT K H a xs ∧ atI xs i = some y ∧ Dt K H y d := by
  cases h with
  | tup hs ha =>
    obtain ⟨y, h1, h2⟩ := ha.at e
    exact ⟨_, _, _, rfl, hs, h1, h2⟩

/-! displays of data -/
def EvD (K : PySem.W.Frag) (te : TE) (σ : L2.St) (H : Hp) (d : PyData) : Prop := ∀ Q : VK, (∀ v H', Same H H' → Dt K H' v d → Q v H') → te σ H Q
def EvDs (K : PySem.W.Frag) (ta : TA) (σ : L2.St) (H : Hp) (ds : List PyData) : Prop := ∀ Q : List V → Hp → Prop, (∀ vs H', Same H H' → DtAll K H' vs ds → Q vs H') → ta σ H Q
section
variable {K : PySem.W.Frag} {σ : L2.St} {H : Hp}
theorem evd_int {i : Int} : EvD K (tC (.int i)) σ H (.int i) := fun _ q => q _ _ (Same.refl _) (.int i)
theorem evd_str {i : Str} : EvD K (tC (.str i)) σ H (.str i) := fun _ q => q _ _ (Same.refl _) (.str i)
theorem evd_non : EvD K (tC .non) σ H .none := fun _ q => q _ _ (Same.refl _) .non
theorem evd_bl {b : Bool} : EvD K (tC (.bl b)) σ H (.bool b) := fun _ q => q _ _ (Same.refl _) (.bl b)
theorem evd_nil : EvDs K tNil σ H [] := fun _ q => q _ _ (Same.refl _) .nil
theorem evd_cons {te : TE} {ta : TA} {d : PyData} {ds : List PyData} (h : EvD K te σ H d) (hr : ∀ H', EvDs K ta σ H' ds) : EvDs K (tCons te ta) σ H (d :: ds) := fun Q q =>
  h _ fun v H1 s1 d1 => hr H1 _ fun vs H2 s2 d2 => q _ _ (s1.trans s2) (.cons (d1.mono (Fz.of_same s2)) d2)
theorem evd_tup {ta : TA} {ds : List PyData} (h : EvDs K ta σ H ds) (hl : ds.length ≤ 1000) : EvD K (tTup ta) σ H (.tuple ds) := fun Q q =>
  h _ fun vs H1 s1 d1 => ⟨szL (by rw [d1.length]; exact hl), fun p hp => q _ _ (s1.trans (same_new hp)) (.tup (SqT.of upd_same) (d1.mono (Fz.new hp)))⟩
end
theorem same_but {b : Addr} {H H1 H2 : Hp} (s : Same H H1) (k : But b H1 H2) (n : H b = none) : Same H H2 := fun a o h => k a o (ne_of_none h n) (s a o h)

theorem rel_ref (a : Addr) : RelV (.ref a) (Value.ref a) := rfl
end Rs
/-! Own exceptions with a field; objects made within a try. -/
namespace Rs
open PySem PySem.Spec PyProof.Rows L2
/-! ### C(e, ..) where what its __init__ lets out is wished for at the caller's slots -/
section
variable {X : Cx} {CX : CXT} {k : Nat} {f C : Addr} {fd : FuncData} {ps : List Str} {sp : Sp} {E : L2.St → XK} {x : Str} {p pos : Pos} {e : Expr} {es : List Expr} {t : TA}
theorem run_makeS {pins : List (Addr × Obj)} {σ : L2.St} {H : Hp} {s : Shared} {Q : VK} {us : List Value} {vs : List V} (M : Mk X.K C f) (F : FnOk X.prog X.w X.K X.mg X.base CX k f fd ps sp) (hr : Room (k + 1) X.A) (hb : Binds X.K fd ps [])
    (hx : PassesAt CX X σ (E σ)) (I : Inv X pins σ H s) (r : Vals vs us)
    (pre : ∀ x dx, H x = none → H dx = none → dx ≠ x → sp (.ref x :: vs) (upd (upd H dx (.own x)) x (.ins C dx [])) (fun v H2 => v = .non ∧ Q (.ref x) H2) (E σ))
    (out : ∀ H1 s1 e s2, Inv X pins σ H1 s1 → L2.CX X.prog X.w X.stack H1 s1 (E σ) e s2 → X.xe e s2) (hCX : CX = L2.CX X.prog X.w) :
    wpAny (model X.prog X.w) X.A (call (.ref C) us) (EP X pins σ Q) X.xe s := by
  subst hCX
  have p0 := pre (s.heap.objs.size + 1) s.heap.objs.size (I.hok.fresh (Nat.le_succ _)) (I.hok.fresh (Nat.le_refl _)) (Nat.ne_of_lt (Nat.lt_succ_self _))
  have J := Inv.made (C := C) I
  have rel : Vals (V.ref (s.heap.objs.size + 1) :: vs) (Value.ref (s.heap.objs.size + 1) :: us) := .cons rfl r
  have n1 : (Value.ref (s.heap.objs.size + 1) :: us).length = ps.length := by rw [← rel.length]; exact F.len _ _ _ _ p0
  have bd := hb _ (Value.ref (s.heap.objs.size + 1) :: us) J.kIn (by rw [List.append_nil]; exact n1)
  rw [List.append_nil] at bd
  have ran := F.run _ X.stack _ _ ⟨Value.ref (s.heap.objs.size + 1) :: us, []⟩ _ _ _ (E σ) (hr.make C us []) (J.env0.make C us []) bd rel p0
  refine wpAny_call (make_map (f := f) I.kIn M.makes M.init (beq_iff_eq.mp M.fn) (codeAny_mono ran fun r s' got => ?_))
  cases r with
  | error e => exact out _ _ _ _ J got
  | ok fl =>
    cases fl with
    | next => exact got.elim
    | brk => exact got.elim
    | cont => exact got.elim
    | ret u =>
      obtain ⟨v, H', J2, rv, rfl, q⟩ := J.after got
      exact ⟨rv, .ref (s.heap.objs.size + 1), H', J2, rfl, q⟩
def tMakeS (C : Addr) (sp : Sp) (E : L2.St → XK) (t : TA) : TE := fun σ H Q => t σ H fun vs H1 => ∀ x dx, H1 x = none → H1 dx = none → dx ≠ x →
  sp (.ref x :: vs) (upd (upd H1 dx (.own x)) x (.ins C dx [])) (fun v H2 => v = .non ∧ Q (.ref x) H2) (E σ)
theorem pe_makeS {W : WX} (M : Mk X.K C f) (F : FnOk X.prog X.w X.K X.mg X.base (L2.CX X.prog X.w) k f fd ps sp) (hr : Room (k + 1) X.A) (hg : Gl X x) (hm : X.mg x = some (.ref C)) (hb : Binds X.K fd ps []) (tk : Takes X W)
    (ha : PA X (e :: es) t) (hdb : (x == ("__debug__" : Str)) = false := by decide) (he : starEach (e :: es) X.env = (false, eval e X.env) :: starEach es X.env := by rfl) (hpl : (backTo pos (starEach es X.env)).any (·.1) = false := by rfl) :
    PE X (.Call (.Name x p) (e :: es) [] pos) (tMakeS C sp (WE W) t) := by
  refine ⟨fun pins s σ H Q I h => wpAny_Call_Name_kw (ld_glob I hg hm ?_ hdb)⟩
  refine PySem.W.callWith_K (h₀ := X.base) I.ok.mod.kin M.kp (thn (ha.run pos pins s σ H _ I h) fun us s1 res => ?_) he hpl
  obtain ⟨vs, H1, I1, r, q⟩ := res
  exact ⟨I1.kIn, run_makeS M F hr hb (passAt tk σ) I1 r q (fun H1 s1 e s2 J c => tk e s2 (XE.of_call J (fun _ _ _ h => h) c)) rfl⟩
end
/-! ### isinstance of a caught exception that has a field -/
structure ExX (K : PySem.W.Frag) (C : Addr) : Prop where
  cl : (PySem.W.clsIn K C).isSome = true
  ga : PySem.W.findIn K (.ref C) "__getattribute__" = some (some (.builtin "BaseException.__getattribute__"))
  gg : PySem.W.findIn K (.ref C) "__getattr__" = some none
  sb : PySem.W.subIn K (.ref C) (.type "BaseException") = some true
  ca : PySem.W.findIn K (.ref C) "__class__" = some (some (.builtin "object.__class__"))
  sp : PySem.W.specialIn K (.builtin "object.__class__") "__get__" = some (some (.builtin "getset_descriptor.__get__"))
  tk : PySem.W.takesIn K (.builtin "object.__class__") = some true
  mo : PySem.W.mroIn K C (.type "object") = some true
section
variable {X : Cx} {pins : List (Addr × Obj)} {σ : L2.St} {H : Hp} {s : Shared} {a C : Addr} {oe : Obj} {cls : Value} {d : Option Addr} {pn : List (Addr × Obj)}
theorem caught_at (I : Inv (X.suite a ((a, oe) :: pn)) pins σ H s) (hz : Zc cls d oe) (hf : ∃ vs, oe.data = .fields vs) {dd : Addr} {fs : List (Str × V)} (ec : cls = .ref C) (ed : d = some dd) (hd : H dd = some (.xd fs)) :
    ∃ od, PySem.W.InstAt s.heap a oe C (some od) := by
  subst ec ed
  obtain ⟨here, _⟩ := I.pin (a, oe) (List.mem_append_left _ List.mem_cons_self)
  obtain ⟨vs, hv⟩ := hf
  obtain ⟨mA, ns, _⟩ := (show ObjOk X.prog X.w H s.heap dd (.xd fs) from I.hok dd _ hd)
  obtain ⟨od, ho, _⟩ := lookIn_ns ns
  exact ⟨od, here, hz.1, by unfold PySem.W.notCls; rw [hv] <;> rfl, by rw [hz.2]; exact ho⟩
def rIsX (K : PySem.W.Frag) (a : Addr) (cls : Value) (d : Option Addr) (C : Addr) : List V → Hp → VK → Prop := fun xs H Q => ∃ (c : V) (cv : Value) (b : Bool) (dd : Addr) (fs : List (Str × V)), xs = [.ref a, c] ∧ ClsV c cv ∧ cls = .ref C ∧ d = some dd ∧ H dd = some (.xd fs) ∧ PySem.W.kitOne K (.ref C) cv = some b ∧ Q (.bl b) H
theorem call_isX (T : ExX X.K C) (hz : Zc cls d oe) (hf : ∃ vs, oe.data = .fields vs) : CallR (X.suite a ((a, oe) :: pn)) (.builtin "isinstance") (rIsX X.K a cls d C) := by
  intro pins s σ H xs us Q I r h
  obtain ⟨c, cv, b, dd, fs, rfl, kc, ec, ed, hd, e, q⟩ := h
  obtain ⟨u1, u2, rfl, r1, r2⟩ := vals2 r
  obtain rfl := kc.eq r2
  cases (show u1 = Value.ref a from r1)
  obtain ⟨od, J⟩ := caught_at I hz hf ec ed hd
  exact PySem.W.kia_one (PySem.W.kitx_exc T.cl T.ga T.gg T.sb T.ca T.sp T.tk T.mo) I.kIn J e (fun z => nomatch z) fun tk => ⟨.bl b, H, I.tok tk, rfl, q⟩
def rIsXT (K : PySem.W.Frag) (a : Addr) (cls : Value) (d : Option Addr) (C : Addr) : List V → Hp → VK → Prop := fun xs H Q => ∃ (tp : Addr) (cs : List V) (ws : List Value) (b : Bool) (dd : Addr) (fs : List (Str × V)), xs = [.ref a, .ref tp] ∧ H tp = some (.tup cs) ∧ Paired ClsV cs ws ∧
  cls = .ref C ∧ d = some dd ∧ H dd = some (.xd fs) ∧ PySem.W.kitAny K (.ref C) ws = some b ∧ Q (.bl b) H
theorem call_isXT (T : ExX X.K C) (hz : Zc cls d oe) (hf : ∃ vs, oe.data = .fields vs) : CallR (X.suite a ((a, oe) :: pn)) (.builtin "isinstance") (rIsXT X.K a cls d C) := by
  intro pins s σ H xs us Q I r h
  obtain ⟨tp, cs, ws, b, dd, fs, rfl, hT, kc, ec, ed, hd, e, q⟩ := h
  obtain ⟨u1, u2, rfl, r1, r2⟩ := vals2 r
  cases (show u1 = Value.ref a from r1)
  cases (show u2 = Value.ref tp from r2)
  obtain ⟨od, J⟩ := caught_at I hz hf ec ed hd
  obtain ⟨_, its, rv, o, h1, h2, n, h3⟩ := (show ObjOk X.prog X.w H s.heap tp (.tup cs) from I.hok tp _ hT)
  obtain rfl := ClsV.all kc rv
  obtain ⟨oc, od', dt, sl⟩ := o
  simp only at h2 h3
  subst h2 h3
  exact PySem.W.kia_tup (PySem.W.kitx_exc T.cl T.ga T.gg T.sb T.ca T.sp T.tk T.mo) I.kIn J h1 e (fun z => nomatch z) fun tk => ⟨.bl b, H, I.tok tk, rfl, q⟩
end
/-! ### the promise of an __init__(self, word): self.word = word -/
def spExc (C : Addr) (f : Str) : Sp := fun vs H Q _ => ∃ (a : Addr) (v : V), vs = [.ref a, v] ∧ H a = some (exo a C none) ∧ ∀ dx, H dx = none → dx ≠ a → Q .non (upd (upd H dx (exd dx [(f, v)])) a (exo a C (some dx)))
/-- the heap behind an exception's making -/
theorem made_heap {H : Hp} {a dx : Addr} {o1 o2 o3 o : HO} (ha : H a = none) (ne : dx ≠ a) : upd (del (upd (upd (upd H a o1) dx o2) a o3) a) dx o = upd H dx o := by
  funext b
  by_cases h1 : b = dx
  · subst h1; rw [upd_same, upd_same]
  · rw [upd_ne h1, upd_ne h1]
    by_cases h2 : b = a
    · subst h2; rw [del_same, ha]
    · rw [del_ne h2, upd_ne h2, upd_ne h1, upd_ne h2]
/-- what C(v) asks, where C's __init__ keeps spExc: its dict is new, the rest as it was -/
theorem make_exc {C : Addr} {f : Str} {v : V} {σ : L2.St} {H : Hp} {Q : XK} (h : ∀ d, H d = none → Q (.ref C) (some d) (upd H d (.xd [(f, v)]))) : tMkO C (spExc C f) [] (tCons (tC v) tNil) σ H Q := by
  refine ⟨by show 1 ≤ 1000; decide, fun a ha => ⟨a, v, rfl, upd_same, fun dx hdx ne => ⟨rfl, dx, [(f, v)], upd_same, by rw [upd_ne ne, upd_same], ?_, ?_⟩⟩⟩
  · rw [upd_ne ne] at hdx
    exact hdx
  · rw [made_heap ha ne]
    exact h dx (by rw [upd_ne ne] at hdx; exact hdx)
end Rs
/-! Values of any kind, told by their outermost shape. -/
namespace Rs
open PySem PySem.Spec PyProof.Rows L2
def Sh (b : Addr) (H : Hp) : V → Prop
  | .non => True
  | .bl _ => True
  | .int _ => True
  | .str _ => True
  | .ref a => a ≠ b ∧ ((∃ xs, H a = some (.lst xs)) ∨ ∃ xs, H a = some (.tup xs))
  | _ => False
theorem Sh.but {b : Addr} {H H' : Hp} {v : V} (h : Sh b H v) (k : But b H H') : Sh b H' v := by
  cases v with
  | ref a =>
    obtain ⟨ne, ⟨xs, e⟩ | ⟨xs, e⟩⟩ := h
    · exact ⟨ne, .inl ⟨xs, k a _ ne e⟩⟩
    · exact ⟨ne, .inr ⟨xs, k a _ ne e⟩⟩
  | non => trivial
  | bl _ => trivial
  | int _ => trivial
  | str _ => trivial
  | byt _ => exact h
  | flt _ => exact h
  | ty _ => exact h
def isInt : V → Bool
  | .int _ => true
  | _ => false
def isBl : V → Bool
  | .bl _ => true
  | _ => false
theorem Sh.ty {K : PySem.W.Frag} {b : Addr} {H : Hp} {v : V} (h : Sh b H v) : ∃ t, TyX K H v (.type t) ∧ kitB t "int" = some (isInt v || isBl v) ∧ kitB t "bool" = some (isBl v) := by
  cases v with
  | non => exact ⟨"NoneType", .base .non, by decide +kernel, by decide +kernel⟩
  | bl x => exact ⟨"bool", .base (.bl x), (by decide +kernel : kitB "bool" "int" = some true), (by decide +kernel : kitB "bool" "bool" = some true)⟩
  | int x => exact ⟨"int", .base (.int x), (by decide +kernel : kitB "int" "int" = some true), (by decide +kernel : kitB "int" "bool" = some false)⟩
  | str x => exact ⟨"str", .base (.str x), (by decide +kernel : kitB "str" "int" = some false), (by decide +kernel : kitB "str" "bool" = some false)⟩
  | ref a =>
    obtain ⟨ne, ⟨xs, e⟩ | ⟨xs, e⟩⟩ := h
    · exact ⟨"list", .base (.lst e), (by decide +kernel : kitB "list" "int" = some false), (by decide +kernel : kitB "list" "bool" = some false)⟩
    · exact ⟨"tuple", .base (.tup e), (by decide +kernel : kitB "tuple" "int" = some false), (by decide +kernel : kitB "tuple" "bool" = some false)⟩
  | byt _ => exact h.elim
  | flt _ => exact h.elim
  | ty _ => exact h.elim
/-- whether a value is an integer that is no bool -/
def spWhole : Sp := fun vs H Q _ => ∃ (b : Addr) (v : V), vs = [v] ∧ Sh b H v ∧ Q (.bl (isInt v)) H
theorem isInt_bl {v : V} : (isInt v || isBl v) = true → (!isBl v) = isInt v := by cases v <;> simp [isInt, isBl]
theorem isInt_no {v : V} : (isInt v || isBl v) = false → false = isInt v := by cases v <;> simp [isInt, isBl]
/-- repr of None and of a text -/
def reprV : V → Str
  | .str x => reprText x
  | _ => "None"
theorem call_repr1 {X : Cx} : CallR X (.builtin "repr") (fun xs H Q => ∃ v, xs = [v] ∧ (v = .non ∨ ∃ x : Str, v = .str x ∧ (reprText x).length ≤ sizeLine) ∧ Q (.str (reprV v)) H) := by
  intro pins s σ H xs us Q I r h
  obtain ⟨v, rfl, rfl | ⟨x, rfl, ln⟩, q⟩ := h
  · obtain ⟨u, rfl, ru⟩ := vals1 r
    obtain rfl : u = Value.none := ru
    exact PySem.P.repr_of_none ⟨.str _, H, I.tok _, ⟨_, rfl⟩, q⟩
  · obtain ⟨u, rfl, t, rfl⟩ := vals1 r
    exact PySem.P.repr_of_str ⟨.str _, H, I.tok _, ⟨_, rfl⟩, q⟩ ln
theorem but_new {b D : Addr} {H H' : Hp} {o : HO} (k : But b H H') (n : H D = none) : But b H (upd H' D o) := fun a u ne e => by
  rw [upd_ne (ne_of_none e n)]
  exact k a u ne e
theorem box_ne {b D : Addr} {H : Hp} {o : HO} (B : Box H b) (ne : D ≠ b) : Box (upd H D o) b := by
  obtain ⟨x, y, z, h, i⟩ := B
  exact ⟨x, y, z, by rw [upd_ne ne.symm]; exact h, i⟩

theorem look1 {f : Str} {v : V} : List.lookup f [(f, v)] = some v := by simp [List.lookup]
theorem Sh.set {b t : Addr} {H : Hp} {v : V} {xs ys : List V} (h : Sh b H v) (e : H t = some (.lst xs)) : Sh b (upd H t (.lst ys)) v := by
  cases v with
  | ref a =>
    obtain ⟨ne, q⟩ := h
    refine ⟨ne, ?_⟩
    by_cases c : a = t
    · subst c
      exact .inl ⟨_, upd_same⟩
    · rw [upd_ne c]
      exact q
  | non => trivial
  | bl _ => trivial
  | int _ => trivial
  | str _ => trivial
  | byt _ => exact h
  | flt _ => exact h
  | ty _ => exact h
end Rs
namespace K03
open PySem PySem.Spec PyProof.Rows L2 Rs
local macro_rules | `(tactic| walk_at "om") => `(tactic| first | omega | (dsimp only; omega))
local macro_rules | `(tactic| walk_at "side") => `(tactic| first | omega | (dsimp only; omega) | decide | (unfold CMul; omega) | (unfold CDiv; omega) | (unfold CPow; omega) | exact wide_div (b := 64) (by omega) (by omega) (by decide) (by decide))
local macro_rules | `(tactic| walk_at "hp") => `(tactic| first | assumption | exact upd_same)
local macro_rules | `(tactic| walk_at "sq") => `(tactic| first | assumption | exact SqL.of (by assumption) | exact SqL.of upd_same)
local macro_rules | `(tactic| walk_at "st") => `(tactic| first
  | refine ⟨_, rfl, ?_⟩
  | (refine ⟨_, _, rfl, rfl, And.intro ?side ?_⟩; (case side => walk_at "side"))
  | refine ⟨_, _, rfl, rfl, ?_⟩
  | (refine' ⟨_, _, _, _, rfl, rfl, SqL.of ?hp, ?atx, ?_⟩; (case hp => walk_at "hp"); (case atx => exact rfl))
  | (refine' ⟨_, _, _, _, rfl, rfl, ?hp, ?atx, ?_⟩; (case hp => walk_at "hp"); (case atx => exact rfl))
  | (refine' ⟨_, _, rfl, Or.inl ?sq, ?_⟩; (case sq => walk_at "sq"))
  | refine Or.inl ⟨_, rfl, ?_⟩
  | refine Or.inr ⟨_, rfl, ?_⟩)
local macro_rules | `(tactic| walk_at "evd") => `(tactic| first
  | exact evd_int
  | exact evd_str
  | exact evd_non
  | exact evd_bl
  | exact evd_nil
  | (refine evd_cons ?_ (fun _ => ?_) <;> walk_at "evd")
  | (refine evd_tup ?_ (Nat.le_of_ble_eq_true rfl); walk_at "evd"))

def topS (i : Nat) : Stmt := PySem.Challenge.pw_ringsums_k03_forms_refused.main.body.getD i (.Pass ⟨0, 0, 0, 0⟩)
abbrev s_InvalidForm___init__ : Stmt := inClass (topS 2) 0
theorem sc_InvalidForm___init__ : FnScope ["self", "word"] ["self", "word"] (defScope s_InvalidForm___init__) := ⟨rfl, rfl, rfl, by decide +kernel, rfl, by decide +kernel, by decide +kernel⟩
abbrev s_InvalidLane___init__ : Stmt := inClass (topS 3) 0
theorem sc_InvalidLane___init__ : FnScope ["self", "word"] ["self", "word"] (defScope s_InvalidLane___init__) := ⟨rfl, rfl, rfl, by decide +kernel, rfl, by decide +kernel, by decide +kernel⟩
abbrev s_InvalidText___init__ : Stmt := inClass (topS 4) 0
theorem sc_InvalidText___init__ : FnScope ["self", "at"] ["self", "at"] (defScope s_InvalidText___init__) := ⟨rfl, rfl, rfl, by decide +kernel, rfl, by decide +kernel, by decide +kernel⟩
abbrev s_Form___init__ : Stmt := inClass (topS 9) 0
theorem sc_Form___init__ : FnScope ["self", "times", "plus", "by"] ["self", "times", "plus", "by"] (defScope s_Form___init__) := ⟨rfl, rfl, rfl, by decide +kernel, rfl, by decide +kernel, by decide +kernel⟩
abbrev s_is_whole : Stmt := topS 6
theorem sc_is_whole : FnScope ["value"] ["value"] (defScope s_is_whole) := ⟨rfl, rfl, rfl, by decide +kernel, rfl, by decide +kernel, by decide +kernel⟩
abbrev s__law_box : Stmt := topS 16
theorem sc__law_box : FnScope ["_law_script", "_law_k", "_law_cell", "_law_seed", "_law_wide"] ["_law_script", "_law_k"] (defScope s__law_box) := ⟨rfl, rfl, rfl, by decide +kernel, rfl, by decide +kernel, by decide +kernel⟩
abbrev s__law_take : Stmt := topS 17
theorem sc__law_take : FnScope ["_law_box_here", "_law_many", "_law_digit", "_law_near"] ["_law_box_here", "_law_many"] (defScope s__law_take) := ⟨rfl, rfl, rfl, by decide +kernel, rfl, by decide +kernel, by decide +kernel⟩
abbrev s__law_pick : Stmt := topS 18
theorem sc__law_pick : FnScope ["_law_box_here", "_law_some"] ["_law_box_here", "_law_some"] (defScope s__law_pick) := ⟨rfl, rfl, rfl, by decide +kernel, rfl, by decide +kernel, by decide +kernel⟩
abbrev s__law_form : Stmt := topS 19
theorem sc__law_form : FnScope ["_law_box_here", "_law_far", "_law_times", "_law_plus"] ["_law_box_here", "_law_far"] (defScope s__law_form) := ⟨rfl, rfl, rfl, by decide +kernel, rfl, by decide +kernel, by decide +kernel⟩
abbrev s__law_any : Stmt := topS 20
theorem sc__law_any : FnScope ["_law_box_here", "_law_deep", "_law_form_here", "_law_some", "_law_k", "_law_words", "_law_plain"] ["_law_box_here", "_law_deep"] (defScope s__law_any) := ⟨rfl, rfl, rfl, by decide +kernel, rfl, by decide +kernel, by decide +kernel⟩
abbrev s__law_is_whole : Stmt := topS 21
theorem sc__law_is_whole : FnScope ["_law_value"] ["_law_value"] (defScope s__law_is_whole) := ⟨rfl, rfl, rfl, by decide +kernel, rfl, by decide +kernel, by decide +kernel⟩
abbrev s__law_due : Stmt := topS 22
theorem sc__law_due : FnScope ["_law_told", "_law_word", "_law_value"] ["_law_told"] (defScope s__law_due) := ⟨rfl, rfl, rfl, by decide +kernel, rfl, by decide +kernel, by decide +kernel⟩
abbrev s__law_refused : Stmt := topS 23
theorem sc__law_refused : FnScope ["_law_told", "_law_found", "e"] ["_law_told"] (defScope s__law_refused) := ⟨rfl, rfl, rfl, by decide +kernel, rfl, by decide +kernel, by decide +kernel⟩
abbrev s_law : Stmt := topS 24
theorem sc_law : FnScope ["_law_script", "_law_k", "_law_box_here", "_law_turn", "_law_told", "_law_more", "_law_odd"] ["_law_script"] (defScope s_law) := ⟨rfl, rfl, rfl, by decide +kernel, rfl, by decide +kernel, by decide +kernel⟩
/-- what the top has written -/
structure Txt (K : PySem.W.Frag) (mg : Str → Option Value) where
  c_RingError : Addr
  m_RingError : mg "RingError" = some (.ref c_RingError)
  c_InvalidForm : Addr
  m_InvalidForm : mg "InvalidForm" = some (.ref c_InvalidForm)
  a_InvalidForm___init__ : Addr
  d_InvalidForm___init__ : FuncData
  F_InvalidForm___init__ : Fun K "__init__" "InvalidForm.__init__" s_InvalidForm___init__ a_InvalidForm___init__ d_InvalidForm___init__
  b_InvalidForm___init__ : Binds K d_InvalidForm___init__ ["self", "word"] []
  k_InvalidForm___init__ : PySem.W.keepIn K (.ref a_InvalidForm___init__) = true
  x_InvalidForm : OexC K c_InvalidForm
  X_InvalidForm : ExX K c_InvalidForm
  f_InvalidForm : XfC K c_InvalidForm
  n_InvalidForm : PySem.W.findIn K (.ref c_InvalidForm) "word" = some none
  i_InvalidForm : PySem.W.findIn K (.ref c_InvalidForm) "__init__" = some (some (.ref a_InvalidForm___init__))
  t_InvalidForm : PySem.W.typeIn K (.ref a_InvalidForm___init__) = some (.type "function")
  e_InvalidForm : PySem.W.exmOne K (.ref c_InvalidForm) (.ref c_InvalidForm) = some true
  c_InvalidLane : Addr
  m_InvalidLane : mg "InvalidLane" = some (.ref c_InvalidLane)
  a_InvalidLane___init__ : Addr
  d_InvalidLane___init__ : FuncData
  F_InvalidLane___init__ : Fun K "__init__" "InvalidLane.__init__" s_InvalidLane___init__ a_InvalidLane___init__ d_InvalidLane___init__
  b_InvalidLane___init__ : Binds K d_InvalidLane___init__ ["self", "word"] []
  k_InvalidLane___init__ : PySem.W.keepIn K (.ref a_InvalidLane___init__) = true
  x_InvalidLane : OexC K c_InvalidLane
  X_InvalidLane : ExX K c_InvalidLane
  f_InvalidLane : XfC K c_InvalidLane
  n_InvalidLane : PySem.W.findIn K (.ref c_InvalidLane) "word" = some none
  i_InvalidLane : PySem.W.findIn K (.ref c_InvalidLane) "__init__" = some (some (.ref a_InvalidLane___init__))
  t_InvalidLane : PySem.W.typeIn K (.ref a_InvalidLane___init__) = some (.type "function")
  e_InvalidLane : PySem.W.exmOne K (.ref c_InvalidLane) (.ref c_InvalidLane) = some true
  c_InvalidText : Addr
  m_InvalidText : mg "InvalidText" = some (.ref c_InvalidText)
  a_InvalidText___init__ : Addr
  d_InvalidText___init__ : FuncData
  F_InvalidText___init__ : Fun K "__init__" "InvalidText.__init__" s_InvalidText___init__ a_InvalidText___init__ d_InvalidText___init__
  b_InvalidText___init__ : Binds K d_InvalidText___init__ ["self", "at"] []
  k_InvalidText___init__ : PySem.W.keepIn K (.ref a_InvalidText___init__) = true
  x_InvalidText : OexC K c_InvalidText
  X_InvalidText : ExX K c_InvalidText
  f_InvalidText : XfC K c_InvalidText
  n_InvalidText : PySem.W.findIn K (.ref c_InvalidText) "at" = some none
  i_InvalidText : PySem.W.findIn K (.ref c_InvalidText) "__init__" = some (some (.ref a_InvalidText___init__))
  t_InvalidText : PySem.W.typeIn K (.ref a_InvalidText___init__) = some (.type "function")
  e_InvalidText : PySem.W.exmOne K (.ref c_InvalidText) (.ref c_InvalidText) = some true
  c_Form : Addr
  m_Form : mg "Form" = some (.ref c_Form)
  C_Form : Cls K c_Form
  n_Form_times : NoAttr K c_Form "times"
  n_Form_plus : NoAttr K c_Form "plus"
  n_Form_by : NoAttr K c_Form "by"
  a_Form___init__ : Addr
  d_Form___init__ : FuncData
  F_Form___init__ : FunD K "__init__" "Form.__init__" (defArgs s_Form___init__) (defBody s_Form___init__) (defScope s_Form___init__) [(.int 0), (.int 0), (.int 1)] [] a_Form___init__ d_Form___init__
  b_Form___init__ : Binds K d_Form___init__ ["self", "times", "plus", "by"] []
  k_Form___init__ : PySem.W.keepIn K (.ref a_Form___init__) = true
  M_Form : Mk K c_Form a_Form___init__
  kit_InvalidForm_RingError : PySem.W.kitOne K (.ref c_InvalidForm) (.ref c_RingError) = some true
  kit_InvalidForm_InvalidLane : PySem.W.kitOne K (.ref c_InvalidForm) (.ref c_InvalidLane) = some false
  kit_InvalidForm_InvalidText : PySem.W.kitOne K (.ref c_InvalidForm) (.ref c_InvalidText) = some false
  a_is_whole : Addr
  d_is_whole : FuncData
  F_is_whole : Fun K "is_whole" "is_whole" s_is_whole a_is_whole d_is_whole
  b_is_whole : Binds K d_is_whole ["value"] []
  k_is_whole : PySem.W.keepIn K (.ref a_is_whole) = true
  m_is_whole : mg "is_whole" = some (.ref a_is_whole)
  a__law_box : Addr
  d__law_box : FuncData
  F__law_box : Fun K "_law_box" "_law_box" s__law_box a__law_box d__law_box
  b__law_box : Binds K d__law_box ["_law_script", "_law_k"] []
  k__law_box : PySem.W.keepIn K (.ref a__law_box) = true
  m__law_box : mg "_law_box" = some (.ref a__law_box)
  a__law_take : Addr
  d__law_take : FuncData
  F__law_take : Fun K "_law_take" "_law_take" s__law_take a__law_take d__law_take
  b__law_take : Binds K d__law_take ["_law_box_here", "_law_many"] []
  k__law_take : PySem.W.keepIn K (.ref a__law_take) = true
  m__law_take : mg "_law_take" = some (.ref a__law_take)
  a__law_pick : Addr
  d__law_pick : FuncData
  F__law_pick : Fun K "_law_pick" "_law_pick" s__law_pick a__law_pick d__law_pick
  b__law_pick : Binds K d__law_pick ["_law_box_here", "_law_some"] []
  k__law_pick : PySem.W.keepIn K (.ref a__law_pick) = true
  m__law_pick : mg "_law_pick" = some (.ref a__law_pick)
  a__law_form : Addr
  d__law_form : FuncData
  F__law_form : Fun K "_law_form" "_law_form" s__law_form a__law_form d__law_form
  b__law_form : Binds K d__law_form ["_law_box_here", "_law_far"] []
  k__law_form : PySem.W.keepIn K (.ref a__law_form) = true
  m__law_form : mg "_law_form" = some (.ref a__law_form)
  a__law_any : Addr
  d__law_any : FuncData
  F__law_any : Fun K "_law_any" "_law_any" s__law_any a__law_any d__law_any
  b__law_any : Binds K d__law_any ["_law_box_here", "_law_deep"] []
  k__law_any : PySem.W.keepIn K (.ref a__law_any) = true
  m__law_any : mg "_law_any" = some (.ref a__law_any)
  a__law_is_whole : Addr
  d__law_is_whole : FuncData
  F__law_is_whole : Fun K "_law_is_whole" "_law_is_whole" s__law_is_whole a__law_is_whole d__law_is_whole
  b__law_is_whole : Binds K d__law_is_whole ["_law_value"] []
  k__law_is_whole : PySem.W.keepIn K (.ref a__law_is_whole) = true
  m__law_is_whole : mg "_law_is_whole" = some (.ref a__law_is_whole)
  a__law_due : Addr
  d__law_due : FuncData
  F__law_due : Fun K "_law_due" "_law_due" s__law_due a__law_due d__law_due
  b__law_due : Binds K d__law_due ["_law_told"] []
  k__law_due : PySem.W.keepIn K (.ref a__law_due) = true
  m__law_due : mg "_law_due" = some (.ref a__law_due)
  a__law_refused : Addr
  d__law_refused : FuncData
  F__law_refused : Fun K "_law_refused" "_law_refused" s__law_refused a__law_refused d__law_refused
  b__law_refused : Binds K d__law_refused ["_law_told"] []
  k__law_refused : PySem.W.keepIn K (.ref a__law_refused) = true
  m__law_refused : mg "_law_refused" = some (.ref a__law_refused)
  a_law : Addr
  d_law : FuncData
  F_law : Fun K "law" "law" s_law a_law d_law
  b_law : Binds K d_law ["_law_script"] []
  k_law : PySem.W.keepIn K (.ref a_law) = true
  m_law : mg "law" = some (.ref a_law)
  z_abs : mg "abs" = none
  z_bool : mg "bool" = none
  z_int : mg "int" = none
  z_isinstance : mg "isinstance" = none
  z_len : mg "len" = none
  z_list : mg "list" = none
  z_max : mg "max" = none
  z_min : mg "min" = none
  z_range : mg "range" = none
  z_repr : mg "repr" = none
  z_tuple : mg "tuple" = none
  z_zip : mg "zip" = none
section
variable {P : Program} {w : World} {K : PySem.W.Frag} {mg : Str → Option Value} {base : Heap}
def spTake : Sp := fun vs H Q _ => ∃ (b : Addr) (m : Int), vs = [.ref b, .int m] ∧ Box H b ∧ 0 < m ∧ m < 2 ^ 40 ∧
  ∀ (r : Int) (H' : Hp), 0 ≤ r → r < m → Box H' b → But b H H' → Q (.int r) H'
theorem ok_take (T : Txt K mg) : FnOk P w K mg base CX0 1 T.a__law_take T.d__law_take ["_law_box_here", "_law_many"] spTake := by
  refine T.F__law_take.ok sc__law_take (fun vs H Q E h => ?_) (fun cdv A outer s H vs Q E hr h => ?_)
  · obtain ⟨b, m, rfl, _⟩ := h
    rfl
  · obtain ⟨b, m, rfl, ⟨x, y, z, hb, ⟨x0, y1, y2⟩⟩, m0, m1, k⟩ := h
    have nd := sc__law_take.nd
    refine ⟨_, (pss_cons (ps_if (pt_cmpR op_gt (pe_ix ix_list (pv 0) pe_int (fun _ _ => rfl)) pe_int (nomark _)) (pss_cons (ps_set (i := 2) nd rfl (Or.inl rfl) (pe_op op_mod (pe_callTy call_int1 (by rfl) T.z_int (by decide +kernel) (pa_cons (pe_ix ix_list (pv 0) pe_int (fun _ _ => rfl)) pa_nil)) (pv 1)))
    (pss_cons (ps_asg (pe_op op_fdivW (pe_ix ix_list (pv 0) pe_int (fun _ _ => rfl)) (pv 1)) (pg_sub (pv 0) pe_int set_list))
    (pss_one (ps_ret (pv 2))))) pss_nil)
    (pss_cons (ps_asg (pe_op op_add (pe_ix ix_list (pv 0) pe_int (fun _ _ => rfl)) pe_int) (pg_sub (pv 0) pe_int set_list))
    (pss_cons (ps_set (i := 3) nd rfl (Or.inl rfl) (pe_op op_mod (pe_callTy call_int1 (by rfl) T.z_int (by decide +kernel) (pa_cons (pe_op op_mul (pe_op op_add (pe_ix ix_list (pv 0) pe_int (fun _ _ => rfl)) (pe_op op_mul pe_int (pe_ix ix_list (pv 0) pe_int (fun _ _ => rfl)))) pe_int) pa_nil)) pe_int))
    (pss_cons (ps_asg (pe_op op_add (pe_op op_mod (pe_callTy call_int1 (by rfl) T.z_int (by decide +kernel) (pa_cons (pe_op op_add (pe_op op_mul (pv 3) pe_int) pe_int) pa_nil)) pe_int) pe_int) (pg_sub (pv 0) pe_int set_list))
    (pss_one (ps_ret (pe_op op_mod (pe_callTy call_int1 (by rfl) T.z_int (by decide +kernel) (pa_cons (pe_op op_fdiv (pe_op op_add (pe_op op_mul (pv 3) pe_int) (pe_ix ix_list (pv 0) pe_int (fun _ _ => rfl))) pe_int) pa_nil)) (pv 1)))))))), ?_⟩
    repeat walk_at "st"
    refine ifB (fun e => ?_) (fun e => ?_)
    · repeat walk_at "st"
      exact k _ _ (Int.emod_nonneg _ (by omega)) (Int.emod_lt_of_pos _ m0) ⟨x / m, y, z, upd_same, Int.ediv_nonneg x0 (by omega), y1, y2⟩ (But.refl _ _).upd
    · repeat walk_at "st"
      exact k _ _ (Int.emod_nonneg _ (by omega)) (Int.emod_lt_of_pos _ m0) ⟨_, _, _, upd_same, x0, by omega, by omega⟩ (((But.refl _ _).upd).upd)
local macro_rules | `(tactic| walk_at "boxtail") => `(tactic| (
  repeat walk_at "st"
  refine ifB (fun e9 => ?_) (fun e9 => ?_)))
/-- the box of a cell -/
def spBox (K : PySem.W.Frag) : Sp := fun vs H Q _ => ∃ (a : Addr) (ns : List Int) (i : Int), vs = [.ref a, .int i] ∧ SqL K H a (ns.map V.int) ∧ 0 ≤ i ∧ i < 1000 ∧
  ∀ (H' : Hp) (p : Addr), Same H H' → H p = none → Box H' p → Q (.ref p) H'
theorem ok_box (T : Txt K mg) : FnOk P w K mg base CX0 1 T.a__law_box T.d__law_box ["_law_script", "_law_k"] (spBox K) := by
  refine T.F__law_box.ok sc__law_box (fun vs H Q E h => ?_) (fun cdv A outer s H vs Q E hr h => ?_)
  · obtain ⟨a, ns, i, rfl, _⟩ := h
    rfl
  · obtain ⟨a, ns, i, rfl, hS, i0, i1, k⟩ := h
    have nd := sc__law_box.nd
    refine ⟨_, (pss_cons (ps_set (i := 2) nd rfl (Or.inl rfl) (pe_op op_add (pe_op op_mul pe_int (pv 1)) pe_int))
    (pss_cons (ps_if (pt_cmpR op_lt (pv 1) (pe_callB call_len_seq (by rfl) T.z_len (by decide +kernel) (pa_cons (pv 0) pa_nil)) (nomark _)) (pss_one (ps_set (i := 2) nd rfl (Or.inl rfl) (pe_callB call_abs (by rfl) T.z_abs (by decide +kernel) (pa_cons (pe_callTy call_int1 (by rfl) T.z_int (by decide +kernel) (pa_cons (pe_ix ix_list (pv 0) (pv 1) (fun _ _ => rfl)) pa_nil)) pa_nil)))) (pss_one (ps_if (pt_cmpR op_gt (pe_callB call_len_seq (by rfl) T.z_len (by decide +kernel) (pa_cons (pv 0) pa_nil)) pe_int (nomark _)) (pss_one (ps_set (i := 2) nd rfl (Or.inl rfl) (pe_op op_add (pv 2) (pe_op op_mul (pe_op op_mod (pe_callTy call_int1 (by rfl) T.z_int (by decide +kernel) (pa_cons (pe_ix ix_list (pv 0) (pe_op op_mod (pe_callTy call_int1 (by rfl) T.z_int (by decide +kernel) (pa_cons (pv 1) pa_nil)) (pe_callB call_len_seq (by rfl) T.z_len (by decide +kernel) (pa_cons (pv 0) pa_nil))) (fun _ _ => rfl)) pa_nil)) pe_int) pe_int)))) pss_nil)))
    (pss_cons (ps_set (i := 3) nd rfl (Or.inl rfl) (pe_op op_add (pe_op op_mod (pe_callTy call_int1 (by rfl) T.z_int (by decide +kernel) (pa_cons (pe_op op_add (pe_op op_add (pe_op op_mul (pe_op op_mod (pe_callTy call_int1 (by rfl) T.z_int (by decide +kernel) (pa_cons (pv 2) pa_nil)) pe_int) pe_int) (pe_op op_mul pe_int (pv 1))) pe_int) pa_nil)) pe_int) pe_int))
    (pss_cons (ps_set (i := 4) nd rfl (Or.inl rfl) (pe_ifExp (pt_cmpR op_ge (pv 2) (pe_op op_pow pe_int pe_int) (nomark _)) (pv 2) pe_int))
    (pss_one (ps_ret (pe_lst (pa_cons (pv 4) (pa_cons (pv 3) (pa_cons pe_int pa_nil)))))))))), ?_⟩
    repeat walk_at "st"
    refine ifB (fun e => ?_) (fun e => ?_)
    · have e := of_decide_eq_true e
      rw [List.length_map] at e
      obtain ⟨z, hz⟩ := ints_at i0 e
      refine ⟨_, rfl, _, rfl, _, _, _, _, rfl, rfl, hS, hz, ?_⟩
      have c0 := natAbs_abs (i := z)
      walk_at "boxtail"
      all_goals
        repeat walk_at "st"
        refine ⟨szL (Nat.le_of_ble_eq_true rfl), fun q hq => ?_⟩
        exact k _ _ (same_new (by assumption)) (by assumption) ⟨_, _, _, upd_same, by first | exact c0 | decide, by walk_at "om", by walk_at "om"⟩
    · repeat walk_at "st"
      refine ifB (fun e1 => ?_) (fun e1 => ?_)
      · have e1 := of_decide_eq_true e1
        repeat walk_at "st"
        rw [List.length_map] at e1
        obtain ⟨z, hz⟩ := ints_at (ns := ns) (k := i % ((ns.map V.int).length : Nat)) (Int.emod_nonneg _ (by rw [List.length_map]; omega)) (by rw [List.length_map]; exact Int.emod_lt_of_pos _ (by omega))
        refine ⟨_, _, _, _, rfl, rfl, hS, hz, ?_⟩
        walk_at "boxtail"
        all_goals
          repeat walk_at "st"
          refine ⟨szL (Nat.le_of_ble_eq_true rfl), fun q hq => ?_⟩
          exact k _ _ (same_new (by assumption)) (by assumption) ⟨_, _, _, upd_same, by walk_at "om", by walk_at "om", by walk_at "om"⟩
      · walk_at "boxtail"
        all_goals
          repeat walk_at "st"
          refine ⟨szL (Nat.le_of_ble_eq_true rfl), fun q hq => ?_⟩
          exact k _ _ (same_new (by assumption)) (by assumption) ⟨_, _, _, upd_same, by walk_at "om", by walk_at "om", by walk_at "om"⟩

/-- one of the items of a list -/
def spPick : Sp := fun vs H Q _ => ∃ (b L : Addr) (xs : List V), vs = [.ref b, .ref L] ∧ Box H b ∧ L ≠ b ∧ H L = some (.lst xs) ∧ 0 < xs.length ∧ xs.length < 1000 ∧
  ∀ (v : V) (H' : Hp), v ∈ xs → Box H' b → But b H H' → Q v H'
theorem ok_pick (T : Txt K mg) : FnOk P w K mg base CX0 2 T.a__law_pick T.d__law_pick ["_law_box_here", "_law_some"] spPick := by
  have G__law_take : FnOk P w K mg base CX0 1 T.a__law_take T.d__law_take ["_law_box_here", "_law_many"] spTake := ok_take T
  refine T.F__law_pick.ok sc__law_pick (fun vs H Q E h => ?_) (fun cdv A outer s H vs Q E hr h => ?_)
  · obtain ⟨b, L, xs, rfl, _⟩ := h
    rfl
  · obtain ⟨b, L, xs, rfl, hB, hne, hL, l0, l1, k⟩ := h
    have nd := sc__law_pick.nd
    refine ⟨_, (pss_one (ps_ret (pe_ix ix_list (pv 1) (pe_call G__law_take (hr.mono (by first | decide | omega)) (by rfl) T.m__law_take T.k__law_take T.b__law_take .nil pass0 (pa_cons (pv 0) (pa_cons (pe_callB call_len_seq (by rfl) T.z_len (by decide +kernel) (pa_cons (pv 1) pa_nil)) pa_nil))) (fun _ _ => rfl)))), ?_⟩
    repeat walk_at "st"
    refine ⟨b, _, rfl, hB, by omega, by omega, fun r H' r0 r1 B' k' => ?_⟩
    obtain ⟨v, hv, hz⟩ := mem_at r0 r1
    exact ⟨_, _, _, _, rfl, rfl, SqL.of (k' _ _ hne hL), hz, k v H' hv B' k'⟩

theorem ok_whole (T : Txt K mg) : FnOk P w K mg base CX0 1 T.a_is_whole T.d_is_whole ["value"] spWhole := by
  refine T.F_is_whole.ok sc_is_whole (fun vs H Q E h => ?_) (fun cdv A outer s H vs Q E hr h => ?_)
  · obtain ⟨b, v, rfl, _⟩ := h
    rfl
  · obtain ⟨b, v, rfl, hv, k⟩ := h
    have nd := sc_is_whole.nd
    refine ⟨_, (pss_one (ps_ret (pe_and (pe_callB call_isi (by rfl) T.z_isinstance (by decide +kernel) (pa_cons (pv 0) (pa_cons (pe_bltn (v := .ty "int") (u := .type "int") (by rfl) T.z_int (by decide +kernel) (by exact rfl)) pa_nil))) (pe_one (pe_not (pe_callB call_isi (by rfl) T.z_isinstance (by decide +kernel) (pa_cons (pv 0) (pa_cons (pe_bltn (v := .ty "bool") (u := .type "bool") (by rfl) T.z_bool (by decide +kernel) (by exact rfl)) pa_nil)))))))), ?_⟩
    obtain ⟨t, ty, ki, kb⟩ := hv.ty (K := K)
    refine ⟨_, rfl, _, _, _, _, _, rfl, .ty _, ty, kit_ty ki, _, rfl, ifB (fun e => ?_) (fun e => ?_)⟩
    · refine ⟨_, rfl, _, _, _, _, _, rfl, .ty _, ty, kit_ty kb, _, rfl, ?_⟩
      rw [isInt_bl e]
      exact k
    · show Q (.bl false) H
      rw [isInt_no e]
      exact k
theorem ok_lwhole (T : Txt K mg) : FnOk P w K mg base CX0 1 T.a__law_is_whole T.d__law_is_whole ["_law_value"] spWhole := by
  refine T.F__law_is_whole.ok sc__law_is_whole (fun vs H Q E h => ?_) (fun cdv A outer s H vs Q E hr h => ?_)
  · obtain ⟨b, v, rfl, _⟩ := h
    rfl
  · obtain ⟨b, v, rfl, hv, k⟩ := h
    have nd := sc__law_is_whole.nd
    refine ⟨_, (pss_one (ps_ret (pe_and (pe_callB call_isi (by rfl) T.z_isinstance (by decide +kernel) (pa_cons (pv 0) (pa_cons (pe_bltn (v := .ty "int") (u := .type "int") (by rfl) T.z_int (by decide +kernel) (by exact rfl)) pa_nil))) (pe_one (pe_not (pe_callB call_isi (by rfl) T.z_isinstance (by decide +kernel) (pa_cons (pv 0) (pa_cons (pe_bltn (v := .ty "bool") (u := .type "bool") (by rfl) T.z_bool (by decide +kernel) (by exact rfl)) pa_nil)))))))), ?_⟩
    obtain ⟨t, ty, ki, kb⟩ := hv.ty (K := K)
    refine ⟨_, rfl, _, _, _, _, _, rfl, .ty _, ty, kit_ty ki, _, rfl, ifB (fun e => ?_) (fun e => ?_)⟩
    · refine ⟨_, rfl, _, _, _, _, _, rfl, .ty _, ty, kit_ty kb, _, rfl, ?_⟩
      rw [isInt_bl e]
      exact k
    · show Q (.bl false) H
      rw [isInt_no e]
      exact k
/-- a drawn form's arguments -/
def spForm : Sp := fun vs H Q _ => ∃ (b : Addr) (far : Int), vs = [.ref b, .int far] ∧ Box H b ∧ 0 < far ∧ far ≤ 1000 ∧
  ∀ (p : Addr) (t q c : Int) (H' : Hp), -1000 ≤ t → t ≤ 1000 → -1000 ≤ q → q ≤ 1000 → 1 ≤ c → c ≤ 3 → p ≠ b → H' p = some (.tup [.int t, .int q, .int c]) → Box H' b → But b H H' → Q (.ref p) H'
theorem ok_form (T : Txt K mg) : FnOk P w K mg base CX0 3 T.a__law_form T.d__law_form ["_law_box_here", "_law_far"] spForm := by
  have G__law_take : FnOk P w K mg base CX0 1 T.a__law_take T.d__law_take ["_law_box_here", "_law_many"] spTake := ok_take T
  have G__law_pick : FnOk P w K mg base CX0 2 T.a__law_pick T.d__law_pick ["_law_box_here", "_law_some"] spPick := ok_pick T
  refine T.F__law_form.ok sc__law_form (fun vs H Q E h => ?_) (fun cdv A outer s H vs Q E hr h => ?_)
  · obtain ⟨b, far, rfl, _⟩ := h
    rfl
  · obtain ⟨b, far, rfl, hB, f0, f1, k⟩ := h
    have nd := sc__law_form.nd
    refine ⟨_, (pss_cons (ps_set (i := 2) nd rfl (Or.inl rfl) (pe_call G__law_pick (hr.mono (by first | decide | omega)) (by rfl) T.m__law_pick T.k__law_pick T.b__law_pick .nil pass0 (pa_cons (pv 0) (pa_cons (pe_lst (pa_cons pe_int (pa_cons pe_int (pa_cons pe_int (pa_cons pe_int (pa_cons pe_int (pa_cons pe_int (pa_cons (pe_op op_sub pe_int pe_int) (pa_cons (pe_op op_sub (pe_call G__law_take (hr.mono (by first | decide | omega)) (by rfl) T.m__law_take T.k__law_take T.b__law_take .nil pass0 (pa_cons (pv 0) (pa_cons (pe_op op_add (pe_op op_mul pe_int (pv 1)) pe_int) pa_nil))) (pv 1)) pa_nil))))))))) pa_nil))))
    (pss_cons (ps_set (i := 3) nd rfl (Or.inl rfl) (pe_call G__law_pick (hr.mono (by first | decide | omega)) (by rfl) T.m__law_pick T.k__law_pick T.b__law_pick .nil pass0 (pa_cons (pv 0) (pa_cons (pe_lst (pa_cons pe_int (pa_cons pe_int (pa_cons (pe_op op_sub pe_int pe_int) (pa_cons pe_int (pa_cons (pe_op op_sub (pe_call G__law_take (hr.mono (by first | decide | omega)) (by rfl) T.m__law_take T.k__law_take T.b__law_take .nil pass0 (pa_cons (pv 0) (pa_cons (pe_op op_add (pe_op op_mul pe_int (pv 1)) pe_int) pa_nil))) (pv 1)) pa_nil)))))) pa_nil))))
    (pss_one (ps_ret (pe_tup (pa_cons (pv 2) (pa_cons (pv 3) (pa_cons (pe_call G__law_pick (hr.mono (by first | decide | omega)) (by rfl) T.m__law_pick T.k__law_pick T.b__law_pick .nil pass0 (pa_cons (pv 0) (pa_cons (pe_lst (pa_cons pe_int (pa_cons pe_int (pa_cons pe_int (pa_cons pe_int (pa_cons pe_int pa_nil)))))) pa_nil))) pa_nil)))))))), ?_⟩
    repeat walk_at "st"
    refine ⟨b, _, rfl, hB, by omega, by omega, fun r1 H1 r10 r11 B1 k1 => ?_⟩
    repeat walk_at "st"
    refine ⟨szL (Nat.le_of_ble_eq_true rfl), fun L1 n1 => ?_⟩
    refine ⟨b, L1, _, rfl, B1.same (same_new n1), B1.ne_none n1, upd_same, by simp, by simp, fun v H2 hv B2 k2 => ?_⟩
    obtain ⟨t, rfl, t0, t1⟩ : ∃ t, v = .int t ∧ -1000 ≤ t ∧ t ≤ 1000 := by
      simp only [List.mem_cons, List.not_mem_nil, or_false] at hv
      rcases hv with h | h | h | h | h | h | h | h <;> exact ⟨_, h, by walk_at "om", by walk_at "om"⟩
    repeat walk_at "st"
    refine ⟨b, _, rfl, B2, by omega, by omega, fun r2 H3 r20 r21 B3 k3 => ?_⟩
    repeat walk_at "st"
    refine ⟨szL (Nat.le_of_ble_eq_true rfl), fun L2 n2 => ?_⟩
    refine ⟨b, L2, _, rfl, B3.same (same_new n2), B3.ne_none n2, upd_same, by simp, by simp, fun v H4 hv B4 k4 => ?_⟩
    obtain ⟨q, rfl, q0, q1⟩ : ∃ t, v = .int t ∧ -1000 ≤ t ∧ t ≤ 1000 := by
      simp only [List.mem_cons, List.not_mem_nil, or_false] at hv
      rcases hv with h | h | h | h | h <;> exact ⟨_, h, by walk_at "om", by walk_at "om"⟩
    repeat walk_at "st"
    refine ⟨szL (Nat.le_of_ble_eq_true rfl), fun L3 n3 => ?_⟩
    refine ⟨b, L3, _, rfl, B4.same (same_new n3), B4.ne_none n3, upd_same, by simp, by simp, fun v H5 hv B5 k5 => ?_⟩
    obtain ⟨c, rfl, c0, c1⟩ : ∃ t, v = .int t ∧ 1 ≤ t ∧ t ≤ 3 := by
      simp only [List.mem_cons, List.not_mem_nil, or_false] at hv
      rcases hv with h | h | h | h | h <;> exact ⟨_, h, by walk_at "om", by walk_at "om"⟩
    refine ⟨szL (Nat.le_of_ble_eq_true rfl), fun p np => ?_⟩
    have kk := (((k1.trans (But.of_same (same_new n1))).trans k2).trans ((k3.trans (But.of_same (same_new n2))).trans k4)).trans ((But.of_same (same_new n3)).trans k5)
    exact k p t q c _ t0 t1 q0 q1 c0 c1 (B5.ne_none np) upd_same (B5.same (same_new np)) (kk.trans (But.of_same (same_new np)))

def spAny (d : Nat) : Sp := fun vs H Q _ => ∃ (b : Addr), vs = [.ref b, .int d] ∧ Box H b ∧ ∀ (v : V) (H' : Hp), Sh b H' v → Box H' b → But b H H' → Q v H'
theorem none_ok {f : Addr} {fd : FuncData} {ps : List Str} {k : Nat} : FnOk P w K mg base CX0 k f fd ps (fun _ _ _ _ => False) := ⟨fun _ _ _ _ h => h.elim, fun _ _ _ _ _ _ _ _ _ _ _ _ _ h => h.elim⟩
theorem any_step (T : Txt K mg) (d k : Nat) (hk : 2 ≤ k) (sp : Sp) (G__law_any : FnOk P w K mg base CX0 k T.a__law_any T.d__law_any ["_law_box_here", "_law_deep"] sp)
    (hsp : ∀ d', d = d' + 1 → sp = spAny d') : FnOk P w K mg base CX0 (k + 1) T.a__law_any T.d__law_any ["_law_box_here", "_law_deep"] (spAny d) := by
  have G__law_take : FnOk P w K mg base CX0 1 T.a__law_take T.d__law_take ["_law_box_here", "_law_many"] spTake := ok_take T
  have G__law_pick : FnOk P w K mg base CX0 2 T.a__law_pick T.d__law_pick ["_law_box_here", "_law_some"] spPick := ok_pick T
  refine T.F__law_any.ok sc__law_any (fun vs H Q E h => ?_) (fun cdv A outer s H vs Q E hr h => ?_)
  · obtain ⟨b, rfl, _⟩ := h
    rfl
  · obtain ⟨b, rfl, hB, k⟩ := h
    have nd := sc__law_any.nd
    have hr2 : Room 2 _ := hr.mono hk
    refine ⟨_, (pss_cons (ps_set (i := 2) nd rfl (Or.inl rfl) (pe_call G__law_take (hr.mono (by first | decide | omega)) (by rfl) T.m__law_take T.k__law_take T.b__law_take .nil pass0 (pa_cons (pv 0) (pa_cons pe_int pa_nil))))
    (pss_cons (ps_if (PW.pt (pw_and (pt_cmpR op_lt (pv 2) pe_int (nomark _)) (pw_and1 (pt_cmpR op_gt (pv 1) pe_int (nomark _))))) (pss_cons (ps_setLc (i := 3) (own := [("_law_k", 4)]) (g := (gName 4)) (by rfl) nd rfl rfl (sw_true rfl rfl rfl (by decide +kernel)) (pi_range1 (by rfl) T.z_range (pa_cons (pe_call G__law_take (hr.mono (by first | decide | omega)) (by rfl) T.m__law_take T.k__law_take T.b__law_take .nil pass0 (pa_cons (pv 0) (pa_cons pe_int pa_nil))) pa_nil)) (blkOk_by (N := ["_law_box_here", "_law_deep", "_law_form_here", "_law_some", "_law_k", "_law_words", "_law_plain"]) (sc := defScope s__law_any) (own := [("_law_k", 4)]) (by decide +kernel)) (fun _ _ _ _ _ => by exact (pg_name (i := 4) nd rfl (Or.inl rfl))) (fun _ _ _ _ _ => by exact pts_nil) (fun _ _ _ _ _ => by exact (pe_call G__law_any (hr.mono (by first | decide | omega)) (by rfl) T.m__law_any T.k__law_any T.b__law_any .nil pass0 (pa_cons (pv 0) (pa_cons (pe_op op_sub (pv 1) pe_int) pa_nil)))))
    (pss_one (ps_ret (pe_ifExp (pt_cmpR op_lt (pv 2) pe_int (nomark _)) (pv 3) (pe_callTy call_tuple_of (by rfl) T.z_tuple (by decide +kernel) (pa_cons (pv 3) pa_nil)))))) pss_nil)
    (pss_cons (ps_set (i := 5) nd rfl (Or.inl rfl) (pe_lst (pa_cons pe_str (pa_cons pe_str (pa_cons pe_str (pa_cons pe_str (pa_cons pe_str (pa_cons pe_str (pa_cons pe_str (pa_cons pe_str (pa_cons pe_str (pa_cons pe_str (pa_cons pe_str (pa_cons pe_str (pa_cons pe_str (pa_cons pe_str (pa_cons pe_str pa_nil)))))))))))))))))
    (pss_cons (ps_set (i := 6) nd rfl (Or.inl rfl) (pe_lst (pa_cons pe_non (pa_cons pe_bl (pa_cons pe_bl (pa_cons pe_int (pa_cons pe_int (pa_cons pe_int (pa_cons (pe_op op_sub pe_int pe_int) (pa_cons (pe_op op_sub (pe_op op_pow pe_int pe_int) pe_int) (pa_cons (pe_lst (pa_cons pe_str pa_nil)) (pa_cons (pe_tup (pa_cons pe_int (pa_cons pe_int pa_nil))) (pa_cons pe_int pa_nil)))))))))))))
    (pss_one (ps_ret (pe_ifExp (pt_cmpR op_lt (pv 2) pe_int (nomark _)) (pe_call G__law_pick (hr.mono (by first | decide | omega)) (by rfl) T.m__law_pick T.k__law_pick T.b__law_pick .nil pass0 (pa_cons (pv 0) (pa_cons (pv 5) pa_nil))) (pe_call G__law_pick (hr.mono (by first | decide | omega)) (by rfl) T.m__law_pick T.k__law_pick T.b__law_pick .nil pass0 (pa_cons (pv 0) (pa_cons (pv 6) pa_nil)))))))))), ?_⟩
    refine ⟨_, rfl, b, 14, rfl, hB, by decide, by decide, fun r H1 r0 r1 B1 k1 => ?_⟩
    refine ⟨_, rfl, _, _, rfl, rfl, _, rfl, ifB (fun e1 => ⟨_, rfl, _, _, rfl, rfl, _, rfl, ifB (fun e2 => ?rec) (fun _ => ?t1)⟩) (fun _ => ?t2)⟩
    case rec =>
        have e2 := of_decide_eq_true e2
        obtain ⟨d', rfl⟩ : ∃ d', d = d' + 1 := ⟨d - 1, by omega⟩
        have esp := hsp d' rfl
        subst esp
        refine ⟨_, rfl, b, 3, rfl, B1, by decide, by decide, fun m H2 m0 m1 B2 k2 => ?_⟩
        refine ⟨m, rfl, by omega, by omega, fun D hD => lc_range (fun i H3 => ∃ acc, H3 D = some (.lst acc) ∧ acc.length = i ∧ Box H3 b ∧ But b H2 H3)
          ⟨[], upd_same, rfl, B2.same (same_new hD), But.of_same (same_new hD)⟩ (fun i H3 hi hP => ?_) (fun H3 hP => ?_)⟩
        · obtain ⟨acc, hA, hl, B3, k3⟩ := hP
          have neD := B2.ne_none hD
          refine ⟨rfl, _, rfl, _, rfl, _, _, rfl, rfl, b, ?_, B3, fun v H4 hv B4 k4 => ⟨acc, k4 _ _ neD hA, szl (by omega), acc ++ [v], upd_same, by rw [List.length_append, hl]; rfl, box_ne B4 neD, but_new (k3.trans k4) hD⟩⟩
          show [V.ref b, V.int (((d' + 1 : Nat) : Int) - 1)] = [V.ref b, V.int (d' : Nat)]
          rw [show (((d' + 1 : Nat) : Int) - 1) = (d' : Nat) by omega]
        · obtain ⟨acc, hA, hl, B3, k3⟩ := hP
          have neD := B2.ne_none hD
          have kk := (k1.trans k2).trans k3
          refine ⟨_, rfl, _, _, rfl, rfl, _, rfl, ifB (fun e3 => ?_) (fun e3 => ?_)⟩
          · exact ⟨_, rfl, k _ _ ⟨neD, .inl ⟨acc, hA⟩⟩ B3 kk⟩
          · refine ⟨_, rfl, D, acc, rfl, .inl ⟨SqL.of hA, fun l hl => ?_⟩⟩
            exact k _ _ ⟨B3.ne_none hl, .inr ⟨acc, upd_same⟩⟩ (B3.same (same_new hl)) (kk.trans (But.of_same (same_new hl)))
    all_goals
      refine ⟨szL (Nat.le_of_ble_eq_true rfl), fun W nW => ?_⟩
      have BW := B1.same (same_new (o := .lst [.str "", .str "up", .str "+", .str "add", .str "n", .str "n-1", .str "lost", .str "lacking", .str "0", .str "-", .str "put", .str "rounds n", .str "down", .str "\n", .str "(n)/2"]) nW)
      repeat walk_at "st"
      refine fun p1 np1 => ?_
      have B2 := BW.same (same_new (o := .lst [.str "n"]) np1)
      repeat walk_at "st"
      refine ⟨szL (Nat.le_of_ble_eq_true rfl), fun p2 np2 => ?_⟩
      have B3 := B2.same (same_new (o := .tup [.int 1, .int 2]) np2)
      repeat walk_at "st"
      refine ⟨szL (Nat.le_of_ble_eq_true rfl), fun p3 np3 => ?_⟩
      have B4 := B3.same (same_new (o := .lst [.non, .bl true, .bl false, .int 0, .int 1, .int 2, .int (0 - 1), .int (10 ^ 9 - 1), .ref p1, .ref p2, .int 4]) np3)
      have kk := ((k1.trans (But.of_same (same_new (o := .lst [.str "", .str "up", .str "+", .str "add", .str "n", .str "n-1", .str "lost", .str "lacking", .str "0", .str "-", .str "put", .str "rounds n", .str "down", .str "\n", .str "(n)/2"]) nW))).trans (But.of_same (same_new (o := .lst [.str "n"]) np1))).trans ((But.of_same (same_new (o := .tup [.int 1, .int 2]) np2)).trans (But.of_same (same_new (o := .lst [.non, .bl true, .bl false, .int 0, .int 1, .int 2, .int (0 - 1), .int (10 ^ 9 - 1), .ref p1, .ref p2, .int 4]) np3)))
      have w1 : W ≠ b := B1.ne_none nW
      have p1b : p1 ≠ b := BW.ne_none np1
      have p2b : p2 ≠ b := B2.ne_none np2
      have p3b : p3 ≠ b := B3.ne_none np3
      refine ⟨_, rfl, _, _, rfl, rfl, _, rfl, ifB (fun _ => ?_) (fun _ => ?_)⟩
      · refine' ⟨_, rfl, _, rfl, b, W, _, rfl, B4, w1, ?hW, ?l0, ?l1, fun v H5 hv B5 k5 => k v H5 ?fin B5 (kk.trans k5)⟩
        case hW =>
          rw [upd_ne (ne_of_none (by rw [upd_ne (ne_of_none (by rw [upd_ne (ne_of_none upd_same np1)]; exact upd_same) np2), upd_ne (ne_of_none upd_same np1)]; exact upd_same) np3), upd_ne (ne_of_none (by rw [upd_ne (ne_of_none upd_same np1)]; exact upd_same) np2), upd_ne (ne_of_none upd_same np1)]
          exact upd_same
        case l0 => simp
        case l1 => simp
        case fin =>
          simp only [List.mem_cons, List.not_mem_nil, or_false] at hv
          rcases hv with h | h | h | h | h | h | h | h | h | h | h | h | h | h | h <;> (subst h; trivial)
      · refine ⟨_, rfl, _, rfl, b, p3, _, rfl, B4, p3b, upd_same, by simp, by simp, fun v H5 hv B5 k5 => k v H5 ?_ B5 (kk.trans k5)⟩
        simp only [List.mem_cons, List.not_mem_nil, or_false] at hv
        rcases hv with h | h | h | h | h | h | h | h | h | h | h
        case' inr.inr.inr.inr.inr.inr.inr.inr.inl =>
          subst h
          exact ⟨p1b, .inl ⟨_, k5 _ _ p1b (by rw [upd_ne (ne_of_none (by rw [upd_ne (ne_of_none upd_same np2)]; exact upd_same) np3), upd_ne (ne_of_none upd_same np2)]; exact upd_same)⟩⟩
        case' inr.inr.inr.inr.inr.inr.inr.inr.inr.inl =>
          subst h
          exact ⟨p2b, .inr ⟨_, k5 _ _ p2b (by rw [upd_ne (ne_of_none upd_same np3)]; exact upd_same)⟩⟩
        all_goals (subst h; trivial)
theorem ok_any (T : Txt K mg) : ∀ d : Nat, FnOk P w K mg base CX0 (3 + d) T.a__law_any T.d__law_any ["_law_box_here", "_law_deep"] (spAny d)
  | 0 => any_step T 0 2 (Nat.le_refl _) _ none_ok (fun d' h => by omega)
  | d + 1 => any_step T (d + 1) (3 + d) (by omega) (spAny d) (ok_any T d) (fun d' h => by rw [show d' = d by omega])

/-! what is refused -/
def okV (v : V) : Bool := isInt v
def byOk : V → Bool
  | .int i => decide (1 ≤ i)
  | _ => false
/-- the name of the first argument that is wrong -/
def dueV (v0 v1 v2 : V) : V := if isInt v0 = false then .str "times" else if isInt v1 = false then .str "plus" else if byOk v2 = false then .str "by" else .non
theorem ok_exc (T : Txt K mg) : FnOk P w K mg base CX0 1 T.a_InvalidForm___init__ T.d_InvalidForm___init__ ["self", "word"] (spExc T.c_InvalidForm "word") := by
  refine T.F_InvalidForm___init__.ok sc_InvalidForm___init__ (fun vs H Q E h => ?_) (fun cdv A outer s H vs Q E hr h => ?_)
  · obtain ⟨a, v, rfl, _⟩ := h
    rfl
  · obtain ⟨a, v, rfl, ha, k⟩ := h
    refine ⟨_, pss_one (ps_ost (pv 0) (pv 1)), ?_⟩
    exact ⟨_, rfl, _, rfl, a, T.c_InvalidForm, rfl, T.x_InvalidForm, T.n_InvalidForm, .inl ⟨ha, fun dx hd ne => k dx hd ne⟩⟩
/-- Form(v0, v1, v2): made, or refused with the first wrong one's name -/
def spInit (CI CF : Addr) : Sp := fun vs H Q E => ∃ (x dx b : Addr) (v0 v1 v2 : V), vs = [.ref x, v0, v1, v2] ∧ H x = some (.ins CF dx []) ∧ Sh b H v0 ∧ Sh b H v1 ∧ Sh b H v2 ∧
  (dueV v0 v1 v2 = .non → Q .non (upd H x (.ins CF dx (putF "by" v2 (putF "plus" v1 (putF "times" v0 [])))))) ∧
  (∀ s, dueV v0 v1 v2 = .str s → ∀ d, H d = none → E (.ref CI) (some d) (upd H d (.xd [("word", .str s)])))
theorem ok_init (T : Txt K mg) : FnOk P w K mg base (L2.CX P w) 4 T.a_Form___init__ T.d_Form___init__ ["self", "times", "plus", "by"] (spInit T.c_InvalidForm T.c_Form) := by
  have G_is_whole : FnOk P w K mg base CX0 1 T.a_is_whole T.d_is_whole ["value"] spWhole := ok_whole T
  have GE_InvalidForm : FnOk P w K mg base CX0 1 T.a_InvalidForm___init__ T.d_InvalidForm___init__ ["self", "word"] (spExc T.c_InvalidForm "word") := ok_exc T
  refine T.F_Form___init__.ok sc_Form___init__ (fun vs H Q E h => ?_) (fun cdv A outer s H vs Q E hr h => ?_)
  · obtain ⟨x, dx, b, v0, v1, v2, rfl, _⟩ := h
    rfl
  · obtain ⟨x, dx, b, v0, v1, v2, rfl, hx, s0, s1, s2, kn, ke⟩ := h
    have nd := sc_Form___init__.nd
    refine ⟨_, (pss_cons (ps_if (pt_not (pt_val (pe_call G_is_whole (hr.mono (by first | decide | omega)) (by rfl) T.m_is_whole T.k_is_whole T.b_is_whole .nil pass0 (pa_cons (pv 1) pa_nil)))) (pss_one (ps_raise rfl (takes_of rfl rfl rfl rfl) (pmk_oex T.x_InvalidForm T.i_InvalidForm T.t_InvalidForm GE_InvalidForm (hr.mono (by first | decide | omega)) T.b_InvalidForm___init__ .nil pass0 (by rfl) T.m_InvalidForm (pa_cons pe_str pa_nil)))) pss_nil)
    (pss_cons (ps_if (pt_not (pt_val (pe_call G_is_whole (hr.mono (by first | decide | omega)) (by rfl) T.m_is_whole T.k_is_whole T.b_is_whole .nil pass0 (pa_cons (pv 2) pa_nil)))) (pss_one (ps_raise rfl (takes_of rfl rfl rfl rfl) (pmk_oex T.x_InvalidForm T.i_InvalidForm T.t_InvalidForm GE_InvalidForm (hr.mono (by first | decide | omega)) T.b_InvalidForm___init__ .nil pass0 (by rfl) T.m_InvalidForm (pa_cons pe_str pa_nil)))) pss_nil)
    (pss_cons (ps_if (PW.pt (pw_or (pt_not (pt_val (pe_call G_is_whole (hr.mono (by first | decide | omega)) (by rfl) T.m_is_whole T.k_is_whole T.b_is_whole .nil pass0 (pa_cons (pv 3) pa_nil)))) (pw_or1 (pt_cmpR op_lt (pv 3) pe_int (nomark _))))) (pss_one (ps_raise rfl (takes_of rfl rfl rfl rfl) (pmk_oex T.x_InvalidForm T.i_InvalidForm T.t_InvalidForm GE_InvalidForm (hr.mono (by first | decide | omega)) T.b_InvalidForm___init__ .nil pass0 (by rfl) T.m_InvalidForm (pa_cons pe_str pa_nil)))) pss_nil)
    (pss_cons (ps_fld (pv 0) (pv 1) rfl)
    (pss_cons (ps_fld (pv 0) (pv 2) rfl)
    (pss_one (ps_fld (pv 0) (pv 3) rfl))))))), ?_⟩
    refine ⟨_, rfl, b, v0, rfl, s0, _, rfl, ?_⟩
    cases h0 : isInt v0 with
    | false => exact ifT rfl (make_exc fun d hd => ke "times" (by unfold dueV; rw [if_pos h0]) d hd)
    | true =>
    refine ifF rfl ?_
    refine ⟨_, rfl, b, v1, rfl, s1, _, rfl, ?_⟩
    cases h1 : isInt v1 with
    | false => exact ifT rfl (make_exc fun d hd => ke "plus" (by unfold dueV; rw [if_neg (by simp [h0]), if_pos h1]) d hd)
    | true =>
    refine ifF rfl ?_
    refine ⟨_, rfl, b, v2, rfl, s2, _, rfl, ?_⟩
    have hby : byOk v2 = false → ∀ d, H d = none → E (.ref T.c_InvalidForm) (some d) (upd H d (.xd [("word", .str "by")])) := fun hb d hd => ke "by" (by unfold dueV; rw [if_neg (by simp [h0]), if_neg (by simp [h1]), if_pos hb]) d hd
    cases v2 with
    | int i =>
      refine ifF rfl ?_
      refine ⟨_, rfl, _, _, rfl, rfl, _, rfl, ifB (fun e => ?_) (fun e => ?_)⟩
      · have e := of_decide_eq_true e
        exact make_exc fun d hd => hby (by show decide (1 ≤ i) = false; exact decide_eq_false (by omega)) d hd
      · have e := of_decide_eq_false e
        have hd0 : dueV v0 v1 (.int i) = .non := by
          unfold dueV
          rw [if_neg (by simp [h0]), if_neg (by simp [h1]), if_neg (by show ¬ (decide (1 ≤ i) = false); rw [decide_eq_true (show 1 ≤ i by omega)]; simp)]
        refine ⟨_, rfl, _, rfl, x, T.c_Form, dx, _, rfl, hx, T.C_Form, T.n_Form_times, by decide, ?_⟩
        refine ⟨_, rfl, _, rfl, x, T.c_Form, dx, _, rfl, upd_same, T.C_Form, T.n_Form_plus, by show 1 < 1000; decide, ?_⟩
        refine ⟨_, rfl, _, rfl, x, T.c_Form, dx, _, rfl, upd_same, T.C_Form, T.n_Form_by, by show 2 < 1000; decide, ?_⟩
        show Q .non _
        rw [upd_upd, upd_upd]
        exact kn hd0
    | non => exact ifT rfl (ifT rfl (make_exc (hby rfl)))
    | bl _ => exact ifT rfl (ifT rfl (make_exc (hby rfl)))
    | str _ => exact ifT rfl (ifT rfl (make_exc (hby rfl)))
    | ref _ => exact ifT rfl (ifT rfl (make_exc (hby rfl)))
    | byt _ => exact s2.elim
    | flt _ => exact s2.elim
    | ty _ => exact s2.elim

def spDue : Sp := fun vs H Q _ => ∃ (b tl : Addr) (v0 v1 v2 : V), vs = [.ref tl] ∧ H tl = some (.lst [v0, v1, v2]) ∧ Sh b H v0 ∧ Sh b H v1 ∧ Sh b H v2 ∧ ∀ H', Same H H' → Q (dueV v0 v1 v2) H'
theorem ok_due (T : Txt K mg) : FnOk P w K mg base CX0 2 T.a__law_due T.d__law_due ["_law_told"] spDue := by
  have G__law_is_whole : FnOk P w K mg base CX0 1 T.a__law_is_whole T.d__law_is_whole ["_law_value"] spWhole := ok_lwhole T
  refine T.F__law_due.ok sc__law_due (fun vs H Q E h => ?_) (fun cdv A outer s H vs Q E hr h => ?_)
  · obtain ⟨b, tl, v0, v1, v2, rfl, _⟩ := h
    rfl
  · obtain ⟨b, tl, v0, v1, v2, rfl, htl, s0, s1, s2, k⟩ := h
    have nd := sc__law_due.nd
    refine ⟨_, (pss_cons (ps_for PassesOwn.never rfl (pi_zip (by rfl) T.z_zip (pa_cons (pe_lst (pa_cons pe_str (pa_cons pe_str (pa_cons pe_str pa_nil)))) (pa_cons (pv 0) pa_nil))) (pg_tup rfl (pgs_cons (pg_name (i := 1) nd rfl (Or.inl rfl)) (pgs_cons (pg_name (i := 2) nd rfl (Or.inl rfl)) pgs_nil)))
    (pss_one (ps_if (PW.pt (pw_or (pt_not (pt_val (pe_call G__law_is_whole (hr.mono (by first | decide | omega)) (by rfl) T.m__law_is_whole T.k__law_is_whole T.b__law_is_whole .nil pass0 (pa_cons (pv 2) pa_nil)))) (pw_or1 (PW.pt (pw_and (pt_cmpR op_eq (pv 1) pe_str (nomark _)) (pw_and1 (pt_cmpR op_lt (pv 2) pe_int (nomark _)))))))) (pss_one (ps_ret (pv 1))) pss_nil)))
    (pss_one (ps_ret pe_non))), ?_⟩
    refine ⟨szL (Nat.le_of_ble_eq_true rfl), fun W nW => ?_⟩
    have sW : Same H (upd H W (.lst [.str "times", .str "plus", .str "by"])) := same_new nW
    refine ⟨_, rfl, W, tl, _, _, rfl, SqL.of upd_same, SqL.of (sW _ _ htl), for_it (walk_zip (n := 3) rfl) (fun i σ H2 => ∃ y1 y2, σ = [some (.ref tl), y1, y2] ∧ Same (upd H W (.lst [.str "times", .str "plus", .str "by"])) H2 ∧ (1 ≤ i → isInt v0 = true) ∧ (2 ≤ i → isInt v1 = true) ∧ (3 ≤ i → byOk v2 = true))
      ⟨none, none, rfl, Same.refl _, fun h => by omega, fun h => by omega, fun h => by omega⟩ (fun i σ H2 _ ⟨_, _, _, sm, _⟩ => ⟨SqL.of (sm _ _ upd_same), SqL.of (sm _ _ (sW _ _ htl))⟩) (fun i x σ H2 H3 hi hP hY => ?_) (fun σ H2 hP => ?_)⟩
    · obtain ⟨y1, y2, rfl, sm, p0, p1, p2⟩ := hP
      obtain ⟨T', a', b', rfl, nT, rfl, h1, h2⟩ := hY
      have sall : Same H (upd H2 T' (.tup [a', b'])) := (sW.trans sm).trans (same_new nT)
      refine ⟨T', _, rfl, SqT.of upd_same, rfl, _, _, rfl, _, _, rfl, rfl, ?_⟩
      rcases (show i = 0 ∨ i = 1 ∨ i = 2 by omega) with rfl | rfl | rfl
      · obtain rfl := Option.some.inj h1
        obtain rfl := Option.some.inj h2
        refine ⟨_, rfl, b, v0, rfl, s0.but (But.of_same sall), _, rfl, ?_⟩
        cases h0 : isInt v0 with
        | false =>
          refine ifT rfl (ifT rfl ⟨_, rfl, ?_⟩)
          rw [show dueV v0 v1 v2 = .str "times" by unfold dueV; rw [if_pos h0]] at k
          exact k _ sall
        | true =>
          refine ifF rfl ?_
          exact ⟨_, rfl, rfl, _, rfl, ifF (by decide +kernel) ⟨_, _, rfl, sm.trans (same_new nT), fun _ => rfl, fun h => by omega, fun h => by omega⟩⟩
      · obtain rfl := Option.some.inj h1
        obtain rfl := Option.some.inj h2
        have q0 := p0 (by omega)
        refine ⟨_, rfl, b, v1, rfl, s1.but (But.of_same sall), _, rfl, ?_⟩
        cases h0 : isInt v1 with
        | false =>
          refine ifT rfl (ifT rfl ⟨_, rfl, ?_⟩)
          rw [show dueV v0 v1 v2 = .str "plus" by unfold dueV; rw [if_neg (by simp [q0]), if_pos h0]] at k
          exact k _ sall
        | true =>
          refine ifF rfl ?_
          exact ⟨_, rfl, rfl, _, rfl, ifF (by decide +kernel) ⟨_, _, rfl, sm.trans (same_new nT), fun _ => q0, fun _ => rfl, fun h => by omega⟩⟩
      · obtain rfl := Option.some.inj h1
        obtain rfl := Option.some.inj h2
        have q0 := p0 (by omega)
        have q1 := p1 (by omega)
        have hby : byOk v2 = false → Q (.str "by") (upd H2 T' (.tup [.str "by", v2])) := fun hb => by
          rw [show dueV v0 v1 v2 = .str "by" by unfold dueV; rw [if_neg (by simp [q0]), if_neg (by simp [q1]), if_pos hb]] at k
          exact k _ sall
        refine ⟨_, rfl, b, v2, rfl, s2.but (But.of_same sall), _, rfl, ?_⟩
        cases v2 with
        | int z =>
          refine ifF rfl ?_
          refine ⟨_, rfl, rfl, _, rfl, ifT (by decide +kernel) ⟨_, rfl, _, _, rfl, rfl, _, rfl, ifB (fun e => ?_) (fun e => ?_)⟩⟩
          · have e := of_decide_eq_true e
            exact ⟨_, rfl, hby (by show decide (1 ≤ z) = false; exact decide_eq_false (by omega))⟩
          · have e := of_decide_eq_false e
            exact ⟨_, _, rfl, sm.trans (same_new nT), fun _ => q0, fun _ => q1, fun _ => by show decide (1 ≤ z) = true; exact decide_eq_true (by omega)⟩
        | non => exact ifT rfl (ifT rfl ⟨_, rfl, hby rfl⟩)
        | bl _ => exact ifT rfl (ifT rfl ⟨_, rfl, hby rfl⟩)
        | str _ => exact ifT rfl (ifT rfl ⟨_, rfl, hby rfl⟩)
        | ref _ => exact ifT rfl (ifT rfl ⟨_, rfl, hby rfl⟩)
        | byt _ => exact s2.elim
        | flt _ => exact s2.elim
        | ty _ => exact s2.elim
    · obtain ⟨y1, y2, rfl, sm, p0, p1, p2⟩ := hP
      rw [show dueV v0 v1 v2 = .non by unfold dueV; rw [if_neg (by simp [p0 (by decide)]), if_neg (by simp [p1 (by decide)]), if_neg (by simp [p2 (by decide)])]] at k
      exact k _ (sW.trans sm)
def t_suite (K : PySem.W.Frag) (CI CR CL CT : Addr) : Addr → Value → Option Addr → TS := fun a cls d =>
  tAsg (tIf (tAnd (tB (tCB (rIsX K a cls d CI) (tCons (tVar 2) (tCons (tC (.ref CR)) tNil)))) (tNot (tB (tCB (rIsXT K a cls d CI) (tCons (tVar 2) (tCons (tTup (tCons (tC (.ref CL)) (tCons (tC (.ref CT)) tNil))) tNil)))))) (tXf a cls d CI "word" (tVar 2)) (tC (.str "other"))) (gName 1)
def t_body (K : PySem.W.Frag) (CI CF : Addr) : WX → TS := fun W => tDrop (tMakeS CF (spInit CI CF) (WE W) (tCons (tOp (rIxL K) (tVar 0) (tC (.int 0))) (tCons (tOp (rIxL K) (tVar 0) (tC (.int 1))) (tCons (tOp (rIxL K) (tVar 0) (tC (.int 2))) tNil))))
theorem ok_refused (T : Txt K mg) : FnOk P w K mg base CX0 6 T.a__law_refused T.d__law_refused ["_law_told"] spDue := by
  have GI : FnOk P w K mg base (L2.CX P w) 4 T.a_Form___init__ T.d_Form___init__ ["self", "times", "plus", "by"] (spInit T.c_InvalidForm T.c_Form) := ok_init T
  refine T.F__law_refused.ok sc__law_refused (fun vs H Q E h => ?_) (fun cdv A outer s H vs Q E hr h => ?_)
  · obtain ⟨b, tl, v0, v1, v2, rfl, _⟩ := h
    rfl
  · obtain ⟨b, tl, v0, v1, v2, rfl, htl, s0, s1, s2, k⟩ := h
    have nd := sc__law_refused.nd
    refine ⟨_, pss_cons (ps_set (i := 1) nd rfl (Or.inl rfl) pe_non)
      (pss_cons (ps_try_as (i := 2) (tb := t_body K T.c_InvalidForm T.c_Form) (ts := t_suite K T.c_InvalidForm T.c_RingError T.c_InvalidLane T.c_InvalidText) (Wout := fun _ _ _ _ => False) rfl rfl nd rfl rfl ⟨rfl, by decide, Or.inl T.m_InvalidForm⟩ takes0
        (fun W pn xe tk _ => pss_one (ps_expr (by exact (pe_makeS T.M_Form GI (hr.mono (by decide)) rfl T.m_Form T.b_Form___init__ tk (by exact (pa_cons (pe_ix ix_list (pv 0) pe_int (fun _ _ => rfl)) (pa_cons (pe_ix ix_list (pv 0) pe_int (fun _ _ => rfl)) (pa_cons (pe_ix ix_list (pv 0) pe_int (fun _ _ => rfl)) pa_nil))))))))
        (fun a oe cls d pn hz hf => pss_one (ps_set (i := 1) nd rfl (Or.inl rfl) (by exact (pe_ifExp (PW.pt (pw_and (pt_val (pe_callB (call_isX T.X_InvalidForm hz hf) (by rfl) T.z_isinstance (by decide +kernel) (pa_cons (pv 2) (pa_cons (pe_glob rfl T.m_RingError (rel_ref _)) pa_nil))))
          (pw_and1 (pt_not (pt_val (pe_callB (call_isXT T.X_InvalidForm hz hf) (by rfl) T.z_isinstance (by decide +kernel) (pa_cons (pv 2) (pa_cons (pe_tup (pa_cons (pe_glob rfl T.m_InvalidLane (rel_ref _)) (pa_cons (pe_glob rfl T.m_InvalidText (rel_ref _)) pa_nil))) pa_nil))))))))
          (pe_xf T.f_InvalidForm T.n_InvalidForm hz hf (pv 2)) pe_str)))))
      (pss_one (ps_ret (pv 1)))), ?_⟩
    refine ⟨_, rfl, _, _, _, _, rfl, rfl, SqL.of htl, rfl, ?_⟩
    refine ⟨_, rfl, _, _, _, _, rfl, rfl, SqL.of htl, rfl, ?_⟩
    refine ⟨_, rfl, _, _, _, _, rfl, rfl, SqL.of htl, rfl, ?_⟩
    refine fun x dx nx ndx ne => ?_
    have sm : Same H (upd (upd H dx (.own x)) x (.ins T.c_Form dx [])) := fun a o e => by
      rw [upd_ne (ne_of_none e nx), upd_ne (ne_of_none e ndx)]
      exact e
    refine ⟨x, dx, b, v0, v1, v2, rfl, upd_same, s0.but (But.of_same sm), s1.but (But.of_same sm), s2.but (But.of_same sm), fun hn => ⟨rfl, ?_⟩, fun s hs d hd => ?_⟩
    · rw [hn] at k
      exact ⟨_, rfl, k _ (same_lst sm nx)⟩
    · rw [hs] at k
      have sd := sm.trans (same_new (o := .xd [("word", .str s)]) hd)
      refine ⟨true, T.e_InvalidForm, fun _ a ha => ?_, fun q => Bool.noConfusion q⟩
      refine ⟨_, rfl, _, _, true, d, _, rfl, .own _, rfl, rfl, upd_same, T.kit_InvalidForm_RingError, _, rfl, iteT ?_⟩
      refine ⟨_, rfl, szL (Nat.le_of_ble_eq_true rfl), fun tp ntp => ?_⟩
      have hd2 : ∀ o, upd (upd (upd (upd H dx (.own x)) x (.ins T.c_Form dx [])) d (.xd [("word", .str s)])) tp o d = some (.xd [("word", .str s)]) := fun o => by
        rw [upd_ne (ne_of_none upd_same ntp)]
        exact upd_same
      refine ⟨tp, _, _, false, d, _, rfl, upd_same, .cons (.own _) (.cons (.own _) .nil), rfl, rfl, hd2 _, kitAny_cons T.kit_InvalidForm_InvalidLane (fun _ => kitAny_cons T.kit_InvalidForm_InvalidText (fun _ => kitAny_nil) (fun q => Bool.noConfusion q)) (fun q => Bool.noConfusion q), _, rfl, ?_⟩
      refine ifT rfl ?_
      refine ⟨_, rfl, rfl, rfl, d, _, .str s, rfl, hd2 _, look1, ?_⟩
      exact ⟨_, rfl, k _ (sd.trans (same_new ntp))⟩

def spLaw (K : PySem.W.Frag) : Sp := fun vs H Q _ => ∃ (a : Addr) (ns : List Int), vs = [.ref a] ∧ SqL K H a (ns.map V.int) ∧ ns.length ≤ 63 ∧ ∀ H', Q (.bl true) H'
theorem due_kinds (v0 v1 v2 : V) : dueV v0 v1 v2 = .non ∨ dueV v0 v1 v2 = .str "times" ∨ dueV v0 v1 v2 = .str "plus" ∨ dueV v0 v1 v2 = .str "by" := by
  unfold dueV
  split
  · exact .inr (.inl rfl)
  · split
    · exact .inr (.inr (.inl rfl))
    · split
      · exact .inr (.inr (.inr rfl))
      · exact .inl rfl
theorem due_repr (v0 v1 v2 : V) : dueV v0 v1 v2 = .non ∨ ∃ x : Str, dueV v0 v1 v2 = .str x ∧ (reprText x).length ≤ sizeLine := by
  rcases due_kinds v0 v1 v2 with h | h | h | h
  · exact .inl h
  · exact .inr ⟨_, h, by decide +kernel⟩
  · exact .inr ⟨_, h, by decide +kernel⟩
  · exact .inr ⟨_, h, by decide +kernel⟩
theorem ok_law (T : Txt K mg) : FnOk P w K mg base CX0 7 T.a_law T.d_law ["_law_script"] (spLaw K) := by
  have G__law_take : FnOk P w K mg base CX0 1 T.a__law_take T.d__law_take ["_law_box_here", "_law_many"] spTake := ok_take T
  have G__law_pick : FnOk P w K mg base CX0 2 T.a__law_pick T.d__law_pick ["_law_box_here", "_law_some"] spPick := ok_pick T
  have G__law_box : FnOk P w K mg base CX0 1 T.a__law_box T.d__law_box ["_law_script", "_law_k"] (spBox K) := ok_box T
  have G__law_form : FnOk P w K mg base CX0 3 T.a__law_form T.d__law_form ["_law_box_here", "_law_far"] spForm := ok_form T
  have G__law_any : FnOk P w K mg base CX0 6 T.a__law_any T.d__law_any ["_law_box_here", "_law_deep"] (spAny 3) := ok_any T 3
  have G__law_due : FnOk P w K mg base CX0 2 T.a__law_due T.d__law_due ["_law_told"] spDue := ok_due T
  have G__law_refused : FnOk P w K mg base CX0 6 T.a__law_refused T.d__law_refused ["_law_told"] spDue := ok_refused T
  refine T.F_law.ok sc_law (fun vs H Q E h => ?_) (fun cdv A outer s H vs Q E hr h => ?_)
  · obtain ⟨a, ns, rfl, _⟩ := h
    rfl
  · obtain ⟨a, ns, rfl, hS, hlen, k⟩ := h
    have nd := sc_law.nd
    refine ⟨_, (pss_cons (ps_for PassesOwn.never rfl (pi_range1 (by rfl) T.z_range (pa_cons (pe_callB (call_max2 rfl) (by rfl) T.z_max (by decide +kernel) (pa_cons pe_int (pa_cons (pe_callB (call_min2 rfl) (by rfl) T.z_min (by decide +kernel) (pa_cons pe_int (pa_cons (pe_callB call_len_seq (by rfl) T.z_len (by decide +kernel) (pa_cons (pv 0) pa_nil)) pa_nil))) pa_nil))) pa_nil)) (pg_name (i := 1) nd rfl (Or.inl rfl))
    (pss_cons (ps_set (i := 2) nd rfl (Or.inl rfl) (pe_call G__law_box (hr.mono (by first | decide | omega)) (by rfl) T.m__law_box T.k__law_box T.b__law_box .nil pass0 (pa_cons (pv 0) (pa_cons (pv 1) pa_nil))))
    (pss_one (ps_for PassesOwn.never rfl (pi_range1 (by rfl) T.z_range (pa_cons pe_int pa_nil)) (pg_name (i := 3) nd rfl (Or.inl rfl))
    (pss_cons (ps_set (i := 4) nd rfl (Or.inl rfl) (pe_callTy call_list_of (by rfl) T.z_list (by decide +kernel) (pa_cons (pe_call G__law_form (hr.mono (by first | decide | omega)) (by rfl) T.m__law_form T.k__law_form T.b__law_form .nil pass0 (pa_cons (pv 2) (pa_cons pe_int pa_nil))) pa_nil)))
    (pss_cons (ps_if (pt_cmpR op_notN (pe_call G__law_refused (hr.mono (by first | decide | omega)) (by rfl) T.m__law_refused T.k__law_refused T.b__law_refused .nil pass0 (pa_cons (pv 4) pa_nil)) pe_non (nomark _)) (pss_one (ps_ret pe_bl)) pss_nil)
    (pss_cons (ps_for PassesOwn.never rfl (pi_range1 (by rfl) T.z_range (pa_cons (pe_call G__law_take (hr.mono (by first | decide | omega)) (by rfl) T.m__law_take T.k__law_take T.b__law_take .nil pass0 (pa_cons (pv 2) (pa_cons pe_int pa_nil))) pa_nil)) (pg_name (i := 5) nd rfl (Or.inl rfl))
    (pss_cons (ps_set (i := 6) nd rfl (Or.inl rfl) (pe_lst (pa_cons (pe_call G__law_any (hr.mono (by first | decide | omega)) (by rfl) T.m__law_any T.k__law_any T.b__law_any .nil pass0 (pa_cons (pv 2) (pa_cons pe_int pa_nil))) (pa_cons pe_bl (pa_cons pe_bl (pa_cons pe_int (pa_cons (pe_op op_sub pe_int pe_int) (pa_cons pe_non (pa_cons pe_str (pa_cons (pe_lst (pa_cons pe_int pa_nil)) (pa_cons pe_int pa_nil)))))))))))
    (pss_one (ps_asg (pe_call G__law_pick (hr.mono (by first | decide | omega)) (by rfl) T.m__law_pick T.k__law_pick T.b__law_pick .nil pass0 (pa_cons (pv 2) (pa_cons (pv 6) pa_nil))) (pg_sub (pv 4) (pe_call G__law_take (hr.mono (by first | decide | omega)) (by rfl) T.m__law_take T.k__law_take T.b__law_take .nil pass0 (pa_cons (pv 2) (pa_cons pe_int pa_nil))) set_list)))))
    (pss_one (ps_if (pt_cmpR op_ne (pe_callB call_repr1 (by rfl) T.z_repr (by decide +kernel) (pa_cons (pe_call G__law_refused (hr.mono (by first | decide | omega)) (by rfl) T.m__law_refused T.k__law_refused T.b__law_refused .nil pass0 (pa_cons (pv 4) pa_nil)) pa_nil)) (pe_callB call_repr1 (by rfl) T.z_repr (by decide +kernel) (pa_cons (pe_call G__law_due (hr.mono (by first | decide | omega)) (by rfl) T.m__law_due T.k__law_due T.b__law_due .nil pass0 (pa_cons (pv 4) pa_nil)) pa_nil)) (nomark _)) (pss_one (ps_ret pe_bl)) pss_nil)))))))))
    (pss_one (ps_ret (pe_and (pe_cmpR op_eq (pe_call G__law_refused (hr.mono (by first | decide | omega)) (by rfl) T.m__law_refused T.k__law_refused T.b__law_refused .nil pass0 (pa_cons (pe_lst (pa_cons pe_int (pa_cons pe_int (pa_cons pe_int pa_nil)))) pa_nil)) pe_str (nomark _)) (pe_one (pe_cmpR op_eq (pe_call G__law_refused (hr.mono (by first | decide | omega)) (by rfl) T.m__law_refused T.k__law_refused T.b__law_refused .nil pass0 (pa_cons (pe_lst (pa_cons pe_non (pa_cons pe_non (pa_cons pe_non pa_nil)))) pa_nil)) pe_str (nomark _))))))), ?_⟩
    refine ⟨_, rfl, _, _, rfl, .inl hS, _, _, rfl, _, _, rfl, _, rfl, ?_, ?_, ?_⟩
    · split <;> split <;> omega
    · split <;> split <;> omega
    refine for_range (fun i σ H2 => ∃ y1 y2 y3 y4 y5 y6, σ = [some (.ref a), y1, y2, y3, y4, y5, y6] ∧ Same H H2)
      ⟨none, none, none, none, none, none, rfl, Same.refl _⟩ (fun i σ H2 hi hP => ?_) (fun σ H2 hP => ?_)
    · obtain ⟨y1, y2, y3, y4, y5, y6, rfl, s2⟩ := hP
      have i4 : i < 1000 := by
        revert hi
        split <;> split <;> omega
      refine ⟨_, rfl, _, rfl, a, ns, _, rfl, s2.seq hS, by omega, by omega, fun H3 b s3 nb B3 => ?_⟩
      have s03 := s2.trans s3
      have nb0 : H b = none := s2.free nb
      refine ⟨10, rfl, by decide, by decide, for_range (fun j σ H4 => ∃ y3 y4 y5 y6, σ = [some (.ref a), some (.int (0 + (i : Int))), some (.ref b), y3, y4, y5, y6] ∧ But b H3 H4 ∧ Box H4 b)
        ⟨y3, y4, y5, y6, rfl, But.refl _ _, B3⟩ (fun j σ H4 hj hP => ?_) (fun σ H4 hP => ?_)⟩
      · obtain ⟨y3, y4, y5, y6, rfl, k4, B4⟩ := hP
        refine ⟨_, rfl, b, 4, rfl, B4, by decide, by decide, fun pt t q c H5 _ _ _ _ c1 _ npt hpt B5 k5 => ?_⟩
        refine ⟨pt, _, rfl, .inr (SqT.of hpt), fun tl ntl => ?_⟩
        have k6 : But b H3 (upd H5 tl (.lst [.int t, .int q, .int c])) := (k4.trans k5).trans (But.of_same (same_new ntl))
        have B6 := B5.same (same_new (o := .lst [.int t, .int q, .int c]) ntl)
        have netl : tl ≠ b := B5.ne_none ntl
        have n3tl : H3 tl = none := by
          cases e : H3 tl with
          | none => rfl
          | some o =>
            have := (k4.trans k5) tl o netl e
            rw [ntl] at this
            cases this
        refine ⟨_, rfl, b, tl, .int t, .int q, .int c, rfl, upd_same, trivial, trivial, trivial, fun H7 s7 => ?_⟩
        have hdue : dueV (.int t) (.int q) (.int c) = .non := by
          unfold dueV
          rw [if_neg (show ¬ (Rs.isInt (.int t) = false) from fun h => Bool.noConfusion (show true = false from h)), if_neg (show ¬ (Rs.isInt (.int q) = false) from fun h => Bool.noConfusion (show true = false from h)), if_neg (by show ¬ (decide (1 ≤ c) = false); rw [decide_eq_true c1]; simp)]
        refine ⟨rfl, _, rfl, ifF (by rw [hdue]; rfl) ?_⟩
        refine ⟨_, rfl, b, 3, rfl, B6.same s7, by decide, by decide, fun m H8 m0 m1 B8 k8 => ?_⟩
        refine ⟨m, rfl, by omega, by omega, for_range (fun x σ H9 => ∃ y5 y6 v0 v1 v2, σ = [some (.ref a), some (.int (0 + (i : Int))), some (.ref b), some (.int (0 + (j : Int))), some (.ref tl), y5, y6] ∧ But b H3 H9 ∧ Box H9 b ∧ H9 tl = some (.lst [v0, v1, v2]) ∧ Sh b H9 v0 ∧ Sh b H9 v1 ∧ Sh b H9 v2)
          ⟨y5, y6, _, _, _, rfl, (k6.trans (But.of_same s7)).trans k8, B8, k8 _ _ netl (s7 _ _ upd_same), trivial, trivial, trivial⟩ (fun x σ H9 hx hP => ?_) (fun σ H9 hP => ?_)⟩
        · obtain ⟨y5, y6, v0, v1, v2, rfl, k9, B9, htl, s0, s1, s2⟩ := hP
          refine ⟨_, rfl, b, rfl, B9, fun v H10 hv B10 k10 => ?_⟩
          refine ⟨_, _, rfl, rfl, szL (Nat.le_of_ble_eq_true rfl), fun p1 np1 => ?_⟩
          refine ⟨szL (Nat.le_of_ble_eq_true rfl), fun p2 np2 => ?_⟩
          have B11 := B10.same (same_new (o := .lst [.int 1]) np1)
          have B12 := B11.same (same_new (o := .lst [v, .bl true, .bl false, .int 0, .int (0 - 1), .non, .str "1", .ref p1, .int 5]) np2)
          have k12 : But b H9 (upd (upd H10 p1 (.lst [.int 1])) p2 (.lst [v, .bl true, .bl false, .int 0, .int (0 - 1), .non, .str "1", .ref p1, .int 5])) := (k10.trans (But.of_same (same_new np1))).trans (But.of_same (same_new np2))
          have p1b : p1 ≠ b := B10.ne_none np1
          have p2b : p2 ≠ b := B11.ne_none np2
          have hv2 : Sh b (upd (upd H10 p1 (.lst [.int 1])) p2 (.lst [v, .bl true, .bl false, .int 0, .int (0 - 1), .non, .str "1", .ref p1, .int 5])) v := (hv.but (But.of_same (same_new np1))).but (But.of_same (same_new np2))
          have hp1 : (upd (upd H10 p1 (.lst [.int 1])) p2 (.lst [v, .bl true, .bl false, .int 0, .int (0 - 1), .non, .str "1", .ref p1, .int 5])) p1 = some (.lst [.int 1]) := by
            rw [upd_ne (ne_of_none upd_same np2)]
            exact upd_same
          refine ⟨_, rfl, _, rfl, b, p2, _, rfl, B12, p2b, upd_same, by simp, by simp, fun u H13 hu B13 k13 => ?_⟩
          have hu2 : Sh b H13 u := by
            simp only [List.mem_cons, List.not_mem_nil, or_false] at hu
            rcases hu with h | h | h | h | h | h | h | h | h
            case' inl => subst h; exact hv2.but k13
            case' inr.inr.inr.inr.inr.inr.inr.inl => subst h; exact ⟨p1b, .inl ⟨_, k13 _ _ p1b hp1⟩⟩
            all_goals (subst h; trivial)
          refine ⟨_, rfl, _, rfl, b, 3, rfl, B13, by decide, by decide, fun r H14 r0 r1 B14 k14 => ?_⟩
          have kk : But b H9 H14 := (k12.trans k13).trans k14
          have htl2 : H14 tl = some (.lst [v0, v1, v2]) := kk _ _ netl htl
          have S0 := (s0.but kk).set (ys := [v0, v1, v2].set r.toNat u) htl2
          have S1 := (s1.but kk).set (ys := [v0, v1, v2].set r.toNat u) htl2
          have S2 := (s2.but kk).set (ys := [v0, v1, v2].set r.toNat u) htl2
          have SU := (hu2.but k14).set (ys := [v0, v1, v2].set r.toNat u) htl2
          have ix : ixN [v0, v1, v2].length r = some r.toNat := by
            show (if 0 ≤ r then (if r < ((3 : Nat) : Int) then some r.toNat else none) else _) = some r.toNat
            rw [if_pos r0, if_pos (show r < ((3 : Nat) : Int) from r1)]
          refine ⟨tl, _, r, r.toNat, rfl, rfl, htl2, ix, ?_⟩
          have kn := but_new (o := .lst ([v0, v1, v2].set r.toNat u)) (k9.trans kk) n3tl
          have Bn := box_ne (o := .lst ([v0, v1, v2].set r.toNat u)) B14 netl
          rcases (show r = 0 ∨ r = 1 ∨ r = 2 by omega) with rfl | rfl | rfl
          · exact ⟨_, _, u, v1, v2, rfl, kn, Bn, upd_same, SU, S1, S2⟩
          · exact ⟨_, _, v0, u, v2, rfl, kn, Bn, upd_same, S0, SU, S2⟩
          · exact ⟨_, _, v0, v1, u, rfl, kn, Bn, upd_same, S0, S1, SU⟩
        · obtain ⟨y5, y6, v0, v1, v2, rfl, k9, B9, htl, s0, s1, s2⟩ := hP
          refine ⟨_, rfl, b, tl, v0, v1, v2, rfl, htl, s0, s1, s2, fun H10 s10 => ?_⟩
          refine ⟨_, rfl, due_repr v0 v1 v2, ?_⟩
          refine ⟨_, rfl, b, tl, v0, v1, v2, rfl, s10 _ _ htl, s0.but (But.of_same s10), s1.but (But.of_same s10), s2.but (But.of_same s10), fun H11 s11 => ?_⟩
          refine ⟨_, rfl, due_repr v0 v1 v2, ?_⟩
          refine ⟨rfl, _, rfl, ifF (by simp) ?_⟩
          exact ⟨_, _, _, _, rfl, (k9.trans (But.of_same s10)).trans (But.of_same s11), (B9.same s10).same s11⟩
      · obtain ⟨y3, y4, y5, y6, rfl, k4, B4⟩ := hP
        exact ⟨_, _, _, _, _, _, rfl, same_but s03 k4 nb0⟩
    · obtain ⟨y1, y2, y3, y4, y5, y6, rfl, s2⟩ := hP
      refine ⟨szL (Nat.le_of_ble_eq_true rfl), fun q1 nq1 => ?_⟩
      refine ⟨q1, q1, .int 0, .int 0, .int 0, rfl, upd_same, trivial, trivial, trivial, fun H3 s3 => ?_⟩
      refine ⟨rfl, _, by decide +kernel, iteT ?_⟩
      refine ⟨szL (Nat.le_of_ble_eq_true rfl), fun q2 nq2 => ?_⟩
      refine ⟨q2, q2, .non, .non, .non, rfl, upd_same, trivial, trivial, trivial, fun H4 s4 => ?_⟩
      refine ⟨rfl, ?_⟩
      exact k _

end
theorem all_mk {l : PySem.W.OpenLaw} {w : World} {K : PySem.W.Frag} {h : Heap} {mg : Str → Option Value} {fa : Addr} (X : K.In h) (G : h.Ns mainGlobals mg) (hfa : mg "law" = some (.ref fa))
    {C_RingError : Addr} (aC_RingError : PySem.W.nsIn K mainGlobals "RingError" = some (some (.ref C_RingError)))
    {C_InvalidForm : Addr} (aC_InvalidForm : PySem.W.nsIn K mainGlobals "InvalidForm" = some (some (.ref C_InvalidForm)))
    {nm_InvalidForm q_InvalidForm : Str} {N_InvalidForm : Addr} {bs_InvalidForm : List Value} {sn_InvalidForm : List Str} {sub_InvalidForm : List Value} {ab_InvalidForm : Bool} {col_InvalidForm : Option Bool} {dd_InvalidForm : Option Addr} {m0_InvalidForm m1_InvalidForm m2_InvalidForm m3_InvalidForm m5_InvalidForm : Option Value}
    (xL_InvalidForm : K.lookup C_InvalidForm = some (excClassObj nm_InvalidForm q_InvalidForm C_InvalidForm N_InvalidForm bs_InvalidForm [.ref C_RingError, .type "ValueError", .type "Exception", .type "BaseException", .type "object"] true sn_InvalidForm sub_InvalidForm ab_InvalidForm col_InvalidForm dd_InvalidForm m0_InvalidForm m1_InvalidForm m2_InvalidForm m3_InvalidForm m5_InvalidForm "ValueError.__new__"))
    (sa_InvalidForm : PySem.W.findIn K (.ref C_InvalidForm) "__setattr__" = some (some (.builtin "object.__setattr__")))
    (ga_InvalidForm : PySem.W.findIn K (.ref C_InvalidForm) "__getattribute__" = some (some (.builtin "BaseException.__getattribute__")))
    (gg_InvalidForm : PySem.W.findIn K (.ref C_InvalidForm) "__getattr__" = some none)
    (nw_InvalidForm : PySem.W.findIn K (.ref C_InvalidForm) "word" = some none)
    (ca_InvalidForm : PySem.W.findIn K (.ref C_InvalidForm) "__class__" = some (some (.builtin "object.__class__")))
    (kC_InvalidForm : PySem.W.keepIn K (.ref C_InvalidForm) = true)
    (eC_InvalidForm : PySem.W.subIn K (.ref C_InvalidForm) (.type "BaseException") = some true)
    (tC_InvalidForm : PySem.W.typeIn K (.ref C_InvalidForm) = some (.type "type"))
    (hC_InvalidForm : PySem.W.hasDictIn K C_InvalidForm = true)
    (sC_InvalidForm : PySem.W.subIn K (.ref C_InvalidForm) (.ref C_InvalidForm) = some true)
    (mo_InvalidForm : PySem.W.mroIn K C_InvalidForm (.type "object") = some true)
    (cl_InvalidForm : (PySem.W.clsIn K C_InvalidForm).isSome = true)
    {f0 : Addr} {od0 an0 : Option Addr} {sl0 : Array (Option Value)} {oc0 kV0 dc0 pm0 cd0 ct0 : Value}
    (l0 : K.lookup f0 = some ⟨oc0, od0, .func (PySem.W.fnOf "__init__" "InvalidForm.__init__" (defArgs s_InvalidForm___init__) (defBody s_InvalidForm___init__) (defScope s_InvalidForm___init__) .none kV0 dc0 pm0 an0 cd0 ct0), sl0⟩) (c0 : PySem.W.codeIn K cd0 "InvalidForm.__init__" = true) (k0 : PySem.W.keepIn K (.ref f0) = true)
    (iC_InvalidForm : PySem.W.findIn K (.ref C_InvalidForm) "__init__" = some (some (.ref f0))) (iT_InvalidForm : PySem.W.typeIn K (.ref f0) = some (.type "function"))
    {C_InvalidLane : Addr} (aC_InvalidLane : PySem.W.nsIn K mainGlobals "InvalidLane" = some (some (.ref C_InvalidLane)))
    {nm_InvalidLane q_InvalidLane : Str} {N_InvalidLane : Addr} {bs_InvalidLane : List Value} {sn_InvalidLane : List Str} {sub_InvalidLane : List Value} {ab_InvalidLane : Bool} {col_InvalidLane : Option Bool} {dd_InvalidLane : Option Addr} {m0_InvalidLane m1_InvalidLane m2_InvalidLane m3_InvalidLane m5_InvalidLane : Option Value}
    (xL_InvalidLane : K.lookup C_InvalidLane = some (excClassObj nm_InvalidLane q_InvalidLane C_InvalidLane N_InvalidLane bs_InvalidLane [.ref C_RingError, .type "ValueError", .type "Exception", .type "BaseException", .type "object"] true sn_InvalidLane sub_InvalidLane ab_InvalidLane col_InvalidLane dd_InvalidLane m0_InvalidLane m1_InvalidLane m2_InvalidLane m3_InvalidLane m5_InvalidLane "ValueError.__new__"))
    (sa_InvalidLane : PySem.W.findIn K (.ref C_InvalidLane) "__setattr__" = some (some (.builtin "object.__setattr__")))
    (ga_InvalidLane : PySem.W.findIn K (.ref C_InvalidLane) "__getattribute__" = some (some (.builtin "BaseException.__getattribute__")))
    (gg_InvalidLane : PySem.W.findIn K (.ref C_InvalidLane) "__getattr__" = some none)
    (nw_InvalidLane : PySem.W.findIn K (.ref C_InvalidLane) "word" = some none)
    (ca_InvalidLane : PySem.W.findIn K (.ref C_InvalidLane) "__class__" = some (some (.builtin "object.__class__")))
    (kC_InvalidLane : PySem.W.keepIn K (.ref C_InvalidLane) = true)
    (eC_InvalidLane : PySem.W.subIn K (.ref C_InvalidLane) (.type "BaseException") = some true)
    (tC_InvalidLane : PySem.W.typeIn K (.ref C_InvalidLane) = some (.type "type"))
    (hC_InvalidLane : PySem.W.hasDictIn K C_InvalidLane = true)
    (sC_InvalidLane : PySem.W.subIn K (.ref C_InvalidLane) (.ref C_InvalidLane) = some true)
    (mo_InvalidLane : PySem.W.mroIn K C_InvalidLane (.type "object") = some true)
    (cl_InvalidLane : (PySem.W.clsIn K C_InvalidLane).isSome = true)
    {f1 : Addr} {od1 an1 : Option Addr} {sl1 : Array (Option Value)} {oc1 kV1 dc1 pm1 cd1 ct1 : Value}
    (l1 : K.lookup f1 = some ⟨oc1, od1, .func (PySem.W.fnOf "__init__" "InvalidLane.__init__" (defArgs s_InvalidLane___init__) (defBody s_InvalidLane___init__) (defScope s_InvalidLane___init__) .none kV1 dc1 pm1 an1 cd1 ct1), sl1⟩) (c1 : PySem.W.codeIn K cd1 "InvalidLane.__init__" = true) (k1 : PySem.W.keepIn K (.ref f1) = true)
    (iC_InvalidLane : PySem.W.findIn K (.ref C_InvalidLane) "__init__" = some (some (.ref f1))) (iT_InvalidLane : PySem.W.typeIn K (.ref f1) = some (.type "function"))
    {C_InvalidText : Addr} (aC_InvalidText : PySem.W.nsIn K mainGlobals "InvalidText" = some (some (.ref C_InvalidText)))
    {nm_InvalidText q_InvalidText : Str} {N_InvalidText : Addr} {bs_InvalidText : List Value} {sn_InvalidText : List Str} {sub_InvalidText : List Value} {ab_InvalidText : Bool} {col_InvalidText : Option Bool} {dd_InvalidText : Option Addr} {m0_InvalidText m1_InvalidText m2_InvalidText m3_InvalidText m5_InvalidText : Option Value}
    (xL_InvalidText : K.lookup C_InvalidText = some (excClassObj nm_InvalidText q_InvalidText C_InvalidText N_InvalidText bs_InvalidText [.ref C_RingError, .type "ValueError", .type "Exception", .type "BaseException", .type "object"] true sn_InvalidText sub_InvalidText ab_InvalidText col_InvalidText dd_InvalidText m0_InvalidText m1_InvalidText m2_InvalidText m3_InvalidText m5_InvalidText "ValueError.__new__"))
    (sa_InvalidText : PySem.W.findIn K (.ref C_InvalidText) "__setattr__" = some (some (.builtin "object.__setattr__")))
    (ga_InvalidText : PySem.W.findIn K (.ref C_InvalidText) "__getattribute__" = some (some (.builtin "BaseException.__getattribute__")))
    (gg_InvalidText : PySem.W.findIn K (.ref C_InvalidText) "__getattr__" = some none)
    (nw_InvalidText : PySem.W.findIn K (.ref C_InvalidText) "at" = some none)
    (ca_InvalidText : PySem.W.findIn K (.ref C_InvalidText) "__class__" = some (some (.builtin "object.__class__")))
    (kC_InvalidText : PySem.W.keepIn K (.ref C_InvalidText) = true)
    (eC_InvalidText : PySem.W.subIn K (.ref C_InvalidText) (.type "BaseException") = some true)
    (tC_InvalidText : PySem.W.typeIn K (.ref C_InvalidText) = some (.type "type"))
    (hC_InvalidText : PySem.W.hasDictIn K C_InvalidText = true)
    (sC_InvalidText : PySem.W.subIn K (.ref C_InvalidText) (.ref C_InvalidText) = some true)
    (mo_InvalidText : PySem.W.mroIn K C_InvalidText (.type "object") = some true)
    (cl_InvalidText : (PySem.W.clsIn K C_InvalidText).isSome = true)
    {f2 : Addr} {od2 an2 : Option Addr} {sl2 : Array (Option Value)} {oc2 kV2 dc2 pm2 cd2 ct2 : Value}
    (l2 : K.lookup f2 = some ⟨oc2, od2, .func (PySem.W.fnOf "__init__" "InvalidText.__init__" (defArgs s_InvalidText___init__) (defBody s_InvalidText___init__) (defScope s_InvalidText___init__) .none kV2 dc2 pm2 an2 cd2 ct2), sl2⟩) (c2 : PySem.W.codeIn K cd2 "InvalidText.__init__" = true) (k2 : PySem.W.keepIn K (.ref f2) = true)
    (iC_InvalidText : PySem.W.findIn K (.ref C_InvalidText) "__init__" = some (some (.ref f2))) (iT_InvalidText : PySem.W.typeIn K (.ref f2) = some (.type "function"))
    {C_Form : Addr} (aC_Form : PySem.W.nsIn K mainGlobals "Form" = some (some (.ref C_Form)))
    (pg_Form : PySem.W.plainGet K C_Form Str.empty = true)
    (hd_Form : PySem.W.hasDictIn K C_Form = true)
    (po_Form : PySem.W.plainOver K C_Form = true)
    (sa_Form : PySem.W.findIn K (.ref C_Form) "__setattr__" = some (some (.builtin "object.__setattr__")))
    (mk_Form : PySem.W.makesIn K C_Form = true)
    (kc_Form : PySem.W.keepIn K (.ref C_Form) = true)
    (n_times_Form : PySem.W.findIn K (.ref C_Form) "times" = some none)
    (n_plus_Form : PySem.W.findIn K (.ref C_Form) "plus" = some none)
    (n_by_Form : PySem.W.findIn K (.ref C_Form) "by" = some none)
    {f3 : Addr} {od3 an3 : Option Addr} {sl3 : Array (Option Value)} {oc3 kV3 dc3 pm3 cd3 ct3 : Value}
    {T3 : Addr} {dd3 : Option Addr} {dn3 : Nat} {dsl3 : Array (Option Value)} {t3_0 : Tok} {t3_1 : Tok} {t3_2 : Tok}
    (t3 : K.lookup T3 = some ⟨.type "tuple", dd3, .seq [Value.int 0 t3_0, Value.int 0 t3_1, Value.int 1 t3_2].toArray dn3, dsl3⟩)
    (l3 : K.lookup f3 = some ⟨oc3, od3, .func (PySem.W.fnOf "__init__" "Form.__init__" (defArgs s_Form___init__) (defBody s_Form___init__) (defScope s_Form___init__) (.ref T3) kV3 dc3 pm3 an3 cd3 ct3), sl3⟩) (c3 : PySem.W.codeIn K cd3 "Form.__init__" = true) (k3 : PySem.W.keepIn K (.ref f3) = true)
    (a3 : PySem.W.findIn K (.ref C_Form) "__init__" = some (some (.ref f3))) (i3 : PySem.W.isFn K (.ref f3) = true)
    (spec : PySem.W.specialIn K (.builtin "object.__class__") "__get__" = some (some (.builtin "getset_descriptor.__get__"))) (takes : PySem.W.takesIn K (.builtin "object.__class__") = some true)
    (kit_InvalidForm_RingError : PySem.W.kitOne K (.ref C_InvalidForm) (.ref C_RingError) = some true)
    (kit_InvalidForm_InvalidLane : PySem.W.kitOne K (.ref C_InvalidForm) (.ref C_InvalidLane) = some false)
    (kit_InvalidForm_InvalidText : PySem.W.kitOne K (.ref C_InvalidForm) (.ref C_InvalidText) = some false)
    {f4 : Addr} {od4 an4 : Option Addr} {sl4 : Array (Option Value)} {oc4 kV4 dc4 pm4 cd4 ct4 : Value}
    (l4 : K.lookup f4 = some ⟨oc4, od4, .func (PySem.W.fnOf "is_whole" "is_whole" (defArgs s_is_whole) (defBody s_is_whole) (defScope s_is_whole) .none kV4 dc4 pm4 an4 cd4 ct4), sl4⟩) (c4 : PySem.W.codeIn K cd4 "is_whole" = true) (k4 : PySem.W.keepIn K (.ref f4) = true)
    (a4 : PySem.W.nsIn K mainGlobals "is_whole" = some (some (.ref f4)))
    {f5 : Addr} {od5 an5 : Option Addr} {sl5 : Array (Option Value)} {oc5 kV5 dc5 pm5 cd5 ct5 : Value}
    (l5 : K.lookup f5 = some ⟨oc5, od5, .func (PySem.W.fnOf "_law_box" "_law_box" (defArgs s__law_box) (defBody s__law_box) (defScope s__law_box) .none kV5 dc5 pm5 an5 cd5 ct5), sl5⟩) (c5 : PySem.W.codeIn K cd5 "_law_box" = true) (k5 : PySem.W.keepIn K (.ref f5) = true)
    (a5 : PySem.W.nsIn K mainGlobals "_law_box" = some (some (.ref f5)))
    {f6 : Addr} {od6 an6 : Option Addr} {sl6 : Array (Option Value)} {oc6 kV6 dc6 pm6 cd6 ct6 : Value}
    (l6 : K.lookup f6 = some ⟨oc6, od6, .func (PySem.W.fnOf "_law_take" "_law_take" (defArgs s__law_take) (defBody s__law_take) (defScope s__law_take) .none kV6 dc6 pm6 an6 cd6 ct6), sl6⟩) (c6 : PySem.W.codeIn K cd6 "_law_take" = true) (k6 : PySem.W.keepIn K (.ref f6) = true)
    (a6 : PySem.W.nsIn K mainGlobals "_law_take" = some (some (.ref f6)))
    {f7 : Addr} {od7 an7 : Option Addr} {sl7 : Array (Option Value)} {oc7 kV7 dc7 pm7 cd7 ct7 : Value}
    (l7 : K.lookup f7 = some ⟨oc7, od7, .func (PySem.W.fnOf "_law_pick" "_law_pick" (defArgs s__law_pick) (defBody s__law_pick) (defScope s__law_pick) .none kV7 dc7 pm7 an7 cd7 ct7), sl7⟩) (c7 : PySem.W.codeIn K cd7 "_law_pick" = true) (k7 : PySem.W.keepIn K (.ref f7) = true)
    (a7 : PySem.W.nsIn K mainGlobals "_law_pick" = some (some (.ref f7)))
    {f8 : Addr} {od8 an8 : Option Addr} {sl8 : Array (Option Value)} {oc8 kV8 dc8 pm8 cd8 ct8 : Value}
    (l8 : K.lookup f8 = some ⟨oc8, od8, .func (PySem.W.fnOf "_law_form" "_law_form" (defArgs s__law_form) (defBody s__law_form) (defScope s__law_form) .none kV8 dc8 pm8 an8 cd8 ct8), sl8⟩) (c8 : PySem.W.codeIn K cd8 "_law_form" = true) (k8 : PySem.W.keepIn K (.ref f8) = true)
    (a8 : PySem.W.nsIn K mainGlobals "_law_form" = some (some (.ref f8)))
    {f9 : Addr} {od9 an9 : Option Addr} {sl9 : Array (Option Value)} {oc9 kV9 dc9 pm9 cd9 ct9 : Value}
    (l9 : K.lookup f9 = some ⟨oc9, od9, .func (PySem.W.fnOf "_law_any" "_law_any" (defArgs s__law_any) (defBody s__law_any) (defScope s__law_any) .none kV9 dc9 pm9 an9 cd9 ct9), sl9⟩) (c9 : PySem.W.codeIn K cd9 "_law_any" = true) (k9 : PySem.W.keepIn K (.ref f9) = true)
    (a9 : PySem.W.nsIn K mainGlobals "_law_any" = some (some (.ref f9)))
    {f10 : Addr} {od10 an10 : Option Addr} {sl10 : Array (Option Value)} {oc10 kV10 dc10 pm10 cd10 ct10 : Value}
    (l10 : K.lookup f10 = some ⟨oc10, od10, .func (PySem.W.fnOf "_law_is_whole" "_law_is_whole" (defArgs s__law_is_whole) (defBody s__law_is_whole) (defScope s__law_is_whole) .none kV10 dc10 pm10 an10 cd10 ct10), sl10⟩) (c10 : PySem.W.codeIn K cd10 "_law_is_whole" = true) (k10 : PySem.W.keepIn K (.ref f10) = true)
    (a10 : PySem.W.nsIn K mainGlobals "_law_is_whole" = some (some (.ref f10)))
    {f11 : Addr} {od11 an11 : Option Addr} {sl11 : Array (Option Value)} {oc11 kV11 dc11 pm11 cd11 ct11 : Value}
    (l11 : K.lookup f11 = some ⟨oc11, od11, .func (PySem.W.fnOf "_law_due" "_law_due" (defArgs s__law_due) (defBody s__law_due) (defScope s__law_due) .none kV11 dc11 pm11 an11 cd11 ct11), sl11⟩) (c11 : PySem.W.codeIn K cd11 "_law_due" = true) (k11 : PySem.W.keepIn K (.ref f11) = true)
    (a11 : PySem.W.nsIn K mainGlobals "_law_due" = some (some (.ref f11)))
    {f12 : Addr} {od12 an12 : Option Addr} {sl12 : Array (Option Value)} {oc12 kV12 dc12 pm12 cd12 ct12 : Value}
    (l12 : K.lookup f12 = some ⟨oc12, od12, .func (PySem.W.fnOf "_law_refused" "_law_refused" (defArgs s__law_refused) (defBody s__law_refused) (defScope s__law_refused) .none kV12 dc12 pm12 an12 cd12 ct12), sl12⟩) (c12 : PySem.W.codeIn K cd12 "_law_refused" = true) (k12 : PySem.W.keepIn K (.ref f12) = true)
    (a12 : PySem.W.nsIn K mainGlobals "_law_refused" = some (some (.ref f12)))
    {f13 : Addr} {od13 an13 : Option Addr} {sl13 : Array (Option Value)} {oc13 kV13 dc13 pm13 cd13 ct13 : Value}
    (l13 : K.lookup f13 = some ⟨oc13, od13, .func (PySem.W.fnOf "law" "law" (defArgs s_law) (defBody s_law) (defScope s_law) .none kV13 dc13 pm13 an13 cd13 ct13), sl13⟩) (c13 : PySem.W.codeIn K cd13 "law" = true) (k13 : PySem.W.keepIn K (.ref f13) = true)
    (a13 : PySem.W.nsIn K mainGlobals "law" = some (some (.ref f13)))
    (z_abs : PySem.W.nsIn K mainGlobals "abs" = some none)
    (z_bool : PySem.W.nsIn K mainGlobals "bool" = some none)
    (z_int : PySem.W.nsIn K mainGlobals "int" = some none)
    (z_isinstance : PySem.W.nsIn K mainGlobals "isinstance" = some none)
    (z_len : PySem.W.nsIn K mainGlobals "len" = some none)
    (z_list : PySem.W.nsIn K mainGlobals "list" = some none)
    (z_max : PySem.W.nsIn K mainGlobals "max" = some none)
    (z_min : PySem.W.nsIn K mainGlobals "min" = some none)
    (z_range : PySem.W.nsIn K mainGlobals "range" = some none)
    (z_repr : PySem.W.nsIn K mainGlobals "repr" = some none)
    (z_tuple : PySem.W.nsIn K mainGlobals "tuple" = some none)
    (z_zip : PySem.W.nsIn K mainGlobals "zip" = some none)
    : ∃ fd : FuncData, (∀ (s : Shared) (v : Value), BindsTo s fd ⟨[v], []⟩ [("_law_script", v)]) ∧ ∀ base : Heap, K.In base → base.Ns mainGlobals mg → FnOk l.prog w K mg base CX0 7 fa fd ["_law_script"] (spLaw K) := by
  have e := hfa.symm.trans (PySem.W.mg_of X G a13)
  cases e
  let T : Txt K mg := {
    c_RingError := C_RingError, m_RingError := PySem.W.mg_of X G aC_RingError,
    c_InvalidForm := C_InvalidForm, m_InvalidForm := PySem.W.mg_of X G aC_InvalidForm,
    a_InvalidForm___init__ := f0, d_InvalidForm___init__ := _, F_InvalidForm___init__ := fun_mk (st := s_InvalidForm___init__) l0 c0 k0, b_InvalidForm___init__ := (fun_mk (st := s_InvalidForm___init__) l0 c0 k0).binds (ps := ["self", "word"]) (fun _ _ _ _ _ _ us hl => match us, hl with | [_, _], _ => rfl), k_InvalidForm___init__ := k0,
    x_InvalidForm := ⟨⟨_, _, _, _, _, _, _, _, _, _, _, _, _, _, _, xL_InvalidForm, by first | rfl | decide +kernel⟩, sa_InvalidForm, eC_InvalidForm, tC_InvalidForm, kC_InvalidForm⟩, X_InvalidForm := ⟨cl_InvalidForm, ga_InvalidForm, gg_InvalidForm, eC_InvalidForm, ca_InvalidForm, spec, takes, mo_InvalidForm⟩, f_InvalidForm := ⟨ga_InvalidForm, gg_InvalidForm, eC_InvalidForm, hC_InvalidForm⟩,
    n_InvalidForm := nw_InvalidForm, i_InvalidForm := iC_InvalidForm, t_InvalidForm := iT_InvalidForm, e_InvalidForm := PySem.W.exm_ref eC_InvalidForm hC_InvalidForm tC_InvalidForm sC_InvalidForm,
    c_InvalidLane := C_InvalidLane, m_InvalidLane := PySem.W.mg_of X G aC_InvalidLane,
    a_InvalidLane___init__ := f1, d_InvalidLane___init__ := _, F_InvalidLane___init__ := fun_mk (st := s_InvalidLane___init__) l1 c1 k1, b_InvalidLane___init__ := (fun_mk (st := s_InvalidLane___init__) l1 c1 k1).binds (ps := ["self", "word"]) (fun _ _ _ _ _ _ us hl => match us, hl with | [_, _], _ => rfl), k_InvalidLane___init__ := k1,
    x_InvalidLane := ⟨⟨_, _, _, _, _, _, _, _, _, _, _, _, _, _, _, xL_InvalidLane, by first | rfl | decide +kernel⟩, sa_InvalidLane, eC_InvalidLane, tC_InvalidLane, kC_InvalidLane⟩, X_InvalidLane := ⟨cl_InvalidLane, ga_InvalidLane, gg_InvalidLane, eC_InvalidLane, ca_InvalidLane, spec, takes, mo_InvalidLane⟩, f_InvalidLane := ⟨ga_InvalidLane, gg_InvalidLane, eC_InvalidLane, hC_InvalidLane⟩,
    n_InvalidLane := nw_InvalidLane, i_InvalidLane := iC_InvalidLane, t_InvalidLane := iT_InvalidLane, e_InvalidLane := PySem.W.exm_ref eC_InvalidLane hC_InvalidLane tC_InvalidLane sC_InvalidLane,
    c_InvalidText := C_InvalidText, m_InvalidText := PySem.W.mg_of X G aC_InvalidText,
    a_InvalidText___init__ := f2, d_InvalidText___init__ := _, F_InvalidText___init__ := fun_mk (st := s_InvalidText___init__) l2 c2 k2, b_InvalidText___init__ := (fun_mk (st := s_InvalidText___init__) l2 c2 k2).binds (ps := ["self", "at"]) (fun _ _ _ _ _ _ us hl => match us, hl with | [_, _], _ => rfl), k_InvalidText___init__ := k2,
    x_InvalidText := ⟨⟨_, _, _, _, _, _, _, _, _, _, _, _, _, _, _, xL_InvalidText, by first | rfl | decide +kernel⟩, sa_InvalidText, eC_InvalidText, tC_InvalidText, kC_InvalidText⟩, X_InvalidText := ⟨cl_InvalidText, ga_InvalidText, gg_InvalidText, eC_InvalidText, ca_InvalidText, spec, takes, mo_InvalidText⟩, f_InvalidText := ⟨ga_InvalidText, gg_InvalidText, eC_InvalidText, hC_InvalidText⟩,
    n_InvalidText := nw_InvalidText, i_InvalidText := iC_InvalidText, t_InvalidText := iT_InvalidText, e_InvalidText := PySem.W.exm_ref eC_InvalidText hC_InvalidText tC_InvalidText sC_InvalidText,
    c_Form := C_Form, m_Form := PySem.W.mg_of X G aC_Form,
    C_Form := ⟨pg_Form, hd_Form, po_Form, sa_Form⟩,
    n_Form_times := n_times_Form,
    n_Form_plus := n_plus_Form,
    n_Form_by := n_by_Form,
    a_Form___init__ := f3, d_Form___init__ := _, F_Form___init__ := (show FunD K "__init__" "Form.__init__" (defArgs s_Form___init__) (defBody s_Form___init__) (defScope s_Form___init__) [(.int 0), (.int 0), (.int 1)] [] _ _ from ⟨⟨_, _, _, _, _, _, _, _, _, _, rfl, l3, c3, .inr ⟨by simp, _, _, [Value.int 0 t3_0, Value.int 0 t3_1, Value.int 1 t3_2], _, rfl, t3, rfl, by repeat (first | exact .nil | refine .cons ⟨_, rfl⟩ ?_ | refine .cons rfl ?_)⟩, .inl rfl⟩, k3⟩), b_Form___init__ := (by obtain ⟨ds, rv, bb⟩ := (show FunD K "__init__" "Form.__init__" (defArgs s_Form___init__) (defBody s_Form___init__) (defScope s_Form___init__) [(.int 0), (.int 0), (.int 1)] [] _ _ from ⟨⟨_, _, _, _, _, _, _, _, _, _, rfl, l3, c3, .inr ⟨by simp, _, _, [Value.int 0 t3_0, Value.int 0 t3_1, Value.int 1 t3_2], _, rfl, t3, rfl, by repeat (first | exact .nil | refine .cons ⟨_, rfl⟩ ?_ | refine .cons rfl ?_)⟩, .inl rfl⟩, k3⟩).binds1 (ps := ["self", "times", "plus", "by"]) 4 3 (by simp) rfl (fun _ _ _ _ _ _ _ us its hl hi => match us, its, hl, hi with | [_, _, _, _], [_, _, _], _, _ => ⟨_, rfl, rfl⟩); cases rv; exact bb), k_Form___init__ := k3,
    M_Form := ⟨mk_Form, a3, i3, kc_Form⟩,
    kit_InvalidForm_RingError := kit_InvalidForm_RingError,
    kit_InvalidForm_InvalidLane := kit_InvalidForm_InvalidLane,
    kit_InvalidForm_InvalidText := kit_InvalidForm_InvalidText,
    a_is_whole := f4, d_is_whole := _, F_is_whole := fun_mk (st := s_is_whole) l4 c4 k4, b_is_whole := (fun_mk (st := s_is_whole) l4 c4 k4).binds (ps := ["value"]) (fun _ _ _ _ _ _ us hl => match us, hl with | [_], _ => rfl), k_is_whole := k4,
    m_is_whole := PySem.W.mg_of X G a4,
    a__law_box := f5, d__law_box := _, F__law_box := fun_mk (st := s__law_box) l5 c5 k5, b__law_box := (fun_mk (st := s__law_box) l5 c5 k5).binds (ps := ["_law_script", "_law_k"]) (fun _ _ _ _ _ _ us hl => match us, hl with | [_, _], _ => rfl), k__law_box := k5,
    m__law_box := PySem.W.mg_of X G a5,
    a__law_take := f6, d__law_take := _, F__law_take := fun_mk (st := s__law_take) l6 c6 k6, b__law_take := (fun_mk (st := s__law_take) l6 c6 k6).binds (ps := ["_law_box_here", "_law_many"]) (fun _ _ _ _ _ _ us hl => match us, hl with | [_, _], _ => rfl), k__law_take := k6,
    m__law_take := PySem.W.mg_of X G a6,
    a__law_pick := f7, d__law_pick := _, F__law_pick := fun_mk (st := s__law_pick) l7 c7 k7, b__law_pick := (fun_mk (st := s__law_pick) l7 c7 k7).binds (ps := ["_law_box_here", "_law_some"]) (fun _ _ _ _ _ _ us hl => match us, hl with | [_, _], _ => rfl), k__law_pick := k7,
    m__law_pick := PySem.W.mg_of X G a7,
    a__law_form := f8, d__law_form := _, F__law_form := fun_mk (st := s__law_form) l8 c8 k8, b__law_form := (fun_mk (st := s__law_form) l8 c8 k8).binds (ps := ["_law_box_here", "_law_far"]) (fun _ _ _ _ _ _ us hl => match us, hl with | [_, _], _ => rfl), k__law_form := k8,
    m__law_form := PySem.W.mg_of X G a8,
    a__law_any := f9, d__law_any := _, F__law_any := fun_mk (st := s__law_any) l9 c9 k9, b__law_any := (fun_mk (st := s__law_any) l9 c9 k9).binds (ps := ["_law_box_here", "_law_deep"]) (fun _ _ _ _ _ _ us hl => match us, hl with | [_, _], _ => rfl), k__law_any := k9,
    m__law_any := PySem.W.mg_of X G a9,
    a__law_is_whole := f10, d__law_is_whole := _, F__law_is_whole := fun_mk (st := s__law_is_whole) l10 c10 k10, b__law_is_whole := (fun_mk (st := s__law_is_whole) l10 c10 k10).binds (ps := ["_law_value"]) (fun _ _ _ _ _ _ us hl => match us, hl with | [_], _ => rfl), k__law_is_whole := k10,
    m__law_is_whole := PySem.W.mg_of X G a10,
    a__law_due := f11, d__law_due := _, F__law_due := fun_mk (st := s__law_due) l11 c11 k11, b__law_due := (fun_mk (st := s__law_due) l11 c11 k11).binds (ps := ["_law_told"]) (fun _ _ _ _ _ _ us hl => match us, hl with | [_], _ => rfl), k__law_due := k11,
    m__law_due := PySem.W.mg_of X G a11,
    a__law_refused := f12, d__law_refused := _, F__law_refused := fun_mk (st := s__law_refused) l12 c12 k12, b__law_refused := (fun_mk (st := s__law_refused) l12 c12 k12).binds (ps := ["_law_told"]) (fun _ _ _ _ _ _ us hl => match us, hl with | [_], _ => rfl), k__law_refused := k12,
    m__law_refused := PySem.W.mg_of X G a12,
    a_law := fa, d_law := _, F_law := fun_mk (st := s_law) l13 c13 k13, b_law := (fun_mk (st := s_law) l13 c13 k13).binds (ps := ["_law_script"]) (fun _ _ _ _ _ _ us hl => match us, hl with | [_], _ => rfl), k_law := k13,
    m_law := PySem.W.mg_of X G a13,
    z_abs := PySem.W.mg_none_of X G z_abs, z_bool := PySem.W.mg_none_of X G z_bool, z_int := PySem.W.mg_none_of X G z_int, z_isinstance := PySem.W.mg_none_of X G z_isinstance, z_len := PySem.W.mg_none_of X G z_len, z_list := PySem.W.mg_none_of X G z_list, z_max := PySem.W.mg_none_of X G z_max, z_min := PySem.W.mg_none_of X G z_min, z_range := PySem.W.mg_none_of X G z_range, z_repr := PySem.W.mg_none_of X G z_repr, z_tuple := PySem.W.mg_none_of X G z_tuple, z_zip := PySem.W.mg_none_of X G z_zip }
  exact ⟨PySem.W.fnOf "law" "law" (defArgs s_law) (defBody s_law) (defScope s_law) .none kV13 dc13 pm13 an13 cd13 ct13, fun s v => .of_eq rfl, fun base _ _ => ok_law T⟩
end K03
open PySem PySem.W PyProof.Rows
set_option maxHeartbeats 0 in
theorem PySem.Challenge.cw_ringsums_k03_forms_refused_holds : PySem.Challenge.rw_ringsums_k03_forms_refused.Holds := by
  w_on; o_law; k_head; (case hw => w_witness2)
  k_fill
  refine L2.walk_of (l := PySem.Challenge.rw_ringsums_k03_forms_refused) (n := 63) (k := 7) (x := "_law_script") (CX := fun _ => L2.CX0) (sp := fun w => K03.spLaw _) rfl (by decide) rfl ⟨rfl, by decide, by decide⟩ (fun w h Y => PySem.W.kIn_of Y) ?F (fun _ _ a ns hl _ hS => ⟨a, ns, rfl, hS, hl, fun _ => rfl⟩) (fun _ _ _ _ _ h => h)
  case F =>
    intro w mg fa h KX G hmg
    refine' K03.all_mk KX G hmg ?aC_RingError ?aC_InvalidForm ?xL_InvalidForm ?sa_InvalidForm ?ga_InvalidForm ?gg_InvalidForm ?nw_InvalidForm ?ca_InvalidForm ?kC_InvalidForm ?eC_InvalidForm ?tC_InvalidForm ?hC_InvalidForm ?sC_InvalidForm ?mo_InvalidForm ?cl_InvalidForm ?l0 ?c0 ?k0 ?iC_InvalidForm ?iT_InvalidForm ?aC_InvalidLane ?xL_InvalidLane ?sa_InvalidLane ?ga_InvalidLane ?gg_InvalidLane ?nw_InvalidLane ?ca_InvalidLane ?kC_InvalidLane ?eC_InvalidLane ?tC_InvalidLane ?hC_InvalidLane ?sC_InvalidLane ?mo_InvalidLane ?cl_InvalidLane ?l1 ?c1 ?k1 ?iC_InvalidLane ?iT_InvalidLane ?aC_InvalidText ?xL_InvalidText ?sa_InvalidText ?ga_InvalidText ?gg_InvalidText ?nw_InvalidText ?ca_InvalidText ?kC_InvalidText ?eC_InvalidText ?tC_InvalidText ?hC_InvalidText ?sC_InvalidText ?mo_InvalidText ?cl_InvalidText ?l2 ?c2 ?k2 ?iC_InvalidText ?iT_InvalidText ?aC_Form ?pg_Form ?hd_Form ?po_Form ?sa_Form ?mk_Form ?kc_Form ?n_times_Form ?n_plus_Form ?n_by_Form ?t3 ?l3 ?c3 ?k3 ?a3 ?i3 ?spec ?takes ?kit_InvalidForm_RingError ?kit_InvalidForm_InvalidLane ?kit_InvalidForm_InvalidText ?l4 ?c4 ?k4 ?a4 ?l5 ?c5 ?k5 ?a5 ?l6 ?c6 ?k6 ?a6 ?l7 ?c7 ?k7 ?a7 ?l8 ?c8 ?k8 ?a8 ?l9 ?c9 ?k9 ?a9 ?l10 ?c10 ?k10 ?a10 ?l11 ?c11 ?k11 ?a11 ?l12 ?c12 ?k12 ?a12 ?l13 ?c13 ?k13 ?a13 ?z_abs ?z_bool ?z_int ?z_isinstance ?z_len ?z_list ?z_max ?z_min ?z_range ?z_repr ?z_tuple ?z_zip
    (case aC_RingError => k_is)
    (case aC_InvalidForm => k_is)
    (case aC_InvalidLane => k_is)
    (case aC_InvalidText => k_is)
    (case aC_Form => k_is)
    (case iC_InvalidForm => k_is)
    (case iC_InvalidLane => k_is)
    (case iC_InvalidText => k_is)
    (case a3 => k_is)
    (case a4 => k_is)
    (case a5 => k_is)
    (case a6 => k_is)
    (case a7 => k_is)
    (case a8 => k_is)
    (case a9 => k_is)
    (case a10 => k_is)
    (case a11 => k_is)
    (case a12 => k_is)
    (case a13 => k_is)
    (case xL_InvalidForm => k_is)
    (case l0 => k_is)
    (case xL_InvalidLane => k_is)
    (case l1 => k_is)
    (case xL_InvalidText => k_is)
    (case l2 => k_is)
    (case l3 => k_is)
    (case l4 => k_is)
    (case l5 => k_is)
    (case l6 => k_is)
    (case l7 => k_is)
    (case l8 => k_is)
    (case l9 => k_is)
    (case l10 => k_is)
    (case l11 => k_is)
    (case l12 => k_is)
    (case l13 => k_is)
    (case sa_InvalidForm => k_is)
    (case ga_InvalidForm => k_is)
    (case gg_InvalidForm => k_is)
    (case nw_InvalidForm => k_is)
    (case ca_InvalidForm => k_is)
    (case kC_InvalidForm => k_is)
    (case eC_InvalidForm => k_is)
    (case tC_InvalidForm => first | rfl | k_is)
    (case hC_InvalidForm => k_is)
    (case sC_InvalidForm => first | rfl | k_is)
    (case mo_InvalidForm => first | rfl | k_is)
    (case cl_InvalidForm => first | rfl | k_is)
    (case c0 => k_is)
    (case k0 => k_is)
    (case iT_InvalidForm => k_is)
    (case sa_InvalidLane => k_is)
    (case ga_InvalidLane => k_is)
    (case gg_InvalidLane => k_is)
    (case nw_InvalidLane => k_is)
    (case ca_InvalidLane => k_is)
    (case kC_InvalidLane => k_is)
    (case eC_InvalidLane => k_is)
    (case tC_InvalidLane => first | rfl | k_is)
    (case hC_InvalidLane => k_is)
    (case sC_InvalidLane => first | rfl | k_is)
    (case mo_InvalidLane => first | rfl | k_is)
    (case cl_InvalidLane => first | rfl | k_is)
    (case c1 => k_is)
    (case k1 => k_is)
    (case iT_InvalidLane => k_is)
    (case sa_InvalidText => k_is)
    (case ga_InvalidText => k_is)
    (case gg_InvalidText => k_is)
    (case nw_InvalidText => k_is)
    (case ca_InvalidText => k_is)
    (case kC_InvalidText => k_is)
    (case eC_InvalidText => k_is)
    (case tC_InvalidText => first | rfl | k_is)
    (case hC_InvalidText => k_is)
    (case sC_InvalidText => first | rfl | k_is)
    (case mo_InvalidText => first | rfl | k_is)
    (case cl_InvalidText => first | rfl | k_is)
    (case c2 => k_is)
    (case k2 => k_is)
    (case iT_InvalidText => k_is)
    (case pg_Form => k_is)
    (case hd_Form => k_is)
    (case po_Form => k_is)
    (case sa_Form => k_is)
    (case mk_Form => k_is)
    (case kc_Form => k_is)
    (case n_times_Form => k_is)
    (case n_plus_Form => k_is)
    (case n_by_Form => k_is)
    (case t3 => first | rfl | k_is)
    (case c3 => k_is)
    (case k3 => k_is)
    (case i3 => k_is)
    (case spec => first | rfl | k_is)
    (case takes => first | rfl | k_is)
    (case kit_InvalidForm_RingError => first | rfl | k_is)
    (case kit_InvalidForm_InvalidLane => first | rfl | k_is)
    (case kit_InvalidForm_InvalidText => first | rfl | k_is)
    (case c4 => k_is)
    (case k4 => k_is)
    (case c5 => k_is)
    (case k5 => k_is)
    (case c6 => k_is)
    (case k6 => k_is)
    (case c7 => k_is)
    (case k7 => k_is)
    (case c8 => k_is)
    (case k8 => k_is)
    (case c9 => k_is)
    (case k9 => k_is)
    (case c10 => k_is)
    (case k10 => k_is)
    (case c11 => k_is)
    (case k11 => k_is)
    (case c12 => k_is)
    (case k12 => k_is)
    (case c13 => k_is)
    (case k13 => k_is)
    (case z_abs => k_is)
    (case z_bool => k_is)
    (case z_int => k_is)
    (case z_isinstance => k_is)
    (case z_len => k_is)
    (case z_list => k_is)
    (case z_max => k_is)
    (case z_min => k_is)
    (case z_range => k_is)
    (case z_repr => k_is)
    (case z_tuple => k_is)
    (case z_zip => k_is)
