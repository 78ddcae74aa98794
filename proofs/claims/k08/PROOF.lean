import PyProof.Rows.All
import Wide.All
import OpenK.AllK
import Wide.FinOn
import HandS.ForMost
import HandS.Wide
import HandS.Conv
import HandS.IsInst
import HandS.Walk
import HandS.TupAny
import HandS.TupMul
import HandS.TryOnly
import HandS.Style
import HandS.Flow
import HandS.Deep
import HandS.ForExc
import HandS.ExcInit
import HandS.ExcIs
import HandS.ExcField
import HandS.Defaults
import HandS.RaiseMore
import KE.KExcIs
import HandS.OwnEq
import HandS.SlotsOwn
import PyProof.InstNe
import PySem.Challenge.RW_ringsums_k08_plans_refused
set_option Elab.async false
set_option linter.all false
set_option maxRecDepth 100000
set_option maxHeartbeats 4000000
namespace Rs
open PySem PySem.Spec PyProof.Rows L2

/-! ### what never changes: tuples, instances, their dicts -/
def frozen : HO → Prop
  | .tup _ => True
  | .ins _ _ _ => True
  | .own _ => True
  | .frz _ _ => True
  | _ => False
def Fz (H H' : Hp) : Prop := ∀ a o, frozen o → H a = some o → H' a = some o
theorem Fz.refl (H : Hp) : Fz H H := fun _ _ _ h => h
theorem Fz.trans {H H1 H2 : Hp} (a : Fz H H1) (b : Fz H1 H2) : Fz H H2 := fun x o f h => b x o f (a x o f h)
theorem Fz.of_same {H H' : Hp} (s : Same H H') : Fz H H' := fun a o _ h => s a o h
theorem same_new {H : Hp} {p : Addr} {o : HO} (h : H p = none) : Same H (upd H p o) := fun b x e => by
  rw [upd_ne (ne_of_none e h)]
  exact e
theorem Fz.new {H : Hp} {p : Addr} {o : HO} (h : H p = none) : Fz H (upd H p o) := Fz.of_same (same_new h)
theorem Fz.lst {H : Hp} {p : Addr} {xs : List V} {o : HO} (h : H p = some (.lst xs)) : Fz H (upd H p o) := fun a u f e => by
  have : a ≠ p := by
    rintro rfl
    rw [h] at e
    cases e
    exact f
  rw [upd_ne this]
  exact e

/-! ### data of tuples -/
mutual
inductive Dt (K : PySem.W.Frag) (H : Hp) : V → PyData → Prop
  | non : Dt K H .non .none
  | bl (b : Bool) : Dt K H (.bl b) (.bool b)
  | int (i : Int) : Dt K H (.int i) (.int i)
  | str (x : Str) : Dt K H (.str x) (.str x)
  | tup {a : Addr} {xs : List V} {ds : List PyData} : SqT K H a xs → DtAll K H xs ds → Dt K H (.ref a) (.tuple ds)
inductive DtAll (K : PySem.W.Frag) (H : Hp) : List V → List PyData → Prop
  | nil : DtAll K H [] []
  | cons {v : V} {vs : List V} {d : PyData} {ds : List PyData} : Dt K H v d → DtAll K H vs ds → DtAll K H (v :: vs) (d :: ds)
end
theorem Fz.sqT {K : PySem.W.Frag} {H H' : Hp} {a : Addr} {xs : List V} (e : Fz H H') (h : SqT K H a xs) : SqT K H' a xs := by
  rcases h with (h | ⟨o, h⟩) | h
  · exact .inl (.inl (e _ _ trivial h))
  · exact .inl (.inr ⟨o, e _ _ trivial h⟩)
  · exact .inr h
mutual
theorem Dt.mono {K : PySem.W.Frag} {H H' : Hp} (e : Fz H H') : ∀ {v : V} {d : PyData}, Dt K H v d → Dt K H' v d
  | _, _, .non => .non
  | _, _, .bl b => .bl b
  | _, _, .int i => .int i
  | _, _, .str x => .str x
  | _, _, .tup h hs => .tup (e.sqT h) (DtAll.mono e hs)
theorem DtAll.mono {K : PySem.W.Frag} {H H' : Hp} (e : Fz H H') : ∀ {v : List V} {d : List PyData}, DtAll K H v d → DtAll K H' v d
  | _, _, .nil => .nil
  | _, _, .cons h hs => .cons (h.mono e) (DtAll.mono e hs)
end
mutual
theorem Dt.dp {K : PySem.W.Frag} {H : Hp} : ∀ {v : V} {d : PyData}, Dt K H v d → Dp K H v d
  | _, _, .non => .non
  | _, _, .bl b => .bl b
  | _, _, .int i => .int i
  | _, _, .str x => .str x
  | _, _, .tup h hs => .tup h (DtAll.dp hs)
theorem DtAll.dp {K : PySem.W.Frag} {H : Hp} : ∀ {v : List V} {d : List PyData}, DtAll K H v d → DpAll K H v d
  | _, _, .nil => .nil
  | _, _, .cons h hs => .cons h.dp (DtAll.dp hs)
end
theorem DtAll.length {K : PySem.W.Frag} {H : Hp} : ∀ {v : List V} {d : List PyData}, DtAll K H v d → v.length = d.length
  | _, _, .nil => rfl
  | _, _, .cons _ hs => congrArg (· + 1) hs.length
theorem DtAll.append {K : PySem.W.Frag} {H : Hp} : ∀ {v w : List V} {d e : List PyData}, DtAll K H v d → DtAll K H w e → DtAll K H (v ++ w) (d ++ e)
  | _, _, _, _, .nil, k => k
  | _, _, _, _, .cons h hs, k => .cons h (hs.append k)
theorem DtAll.get {K : PySem.W.Frag} {H : Hp} : ∀ {v : List V} {d : List PyData} {i : Nat} {x : PyData}, DtAll K H v d → d[i]? = some x → ∃ y, v[i]? = some y ∧ Dt K H y x
  | _, _, i, x, .nil, e => by simp at e
  | _, _, 0, x, .cons h _, e => ⟨_, rfl, by
      have : _ = x := Option.some.inj e
      exact this ▸ h⟩
  | _, _, i + 1, x, .cons _ hs, e => by
    have e' := e
    simp only [List.getElem?_cons_succ] at e' ⊢
    exact hs.get e'
theorem DtAll.getV {K : PySem.W.Frag} {H : Hp} : ∀ {v : List V} {d : List PyData} {i : Nat} {y : V}, DtAll K H v d → v[i]? = some y → ∃ x, d[i]? = some x ∧ Dt K H y x
  | _, _, i, x, .nil, e => by simp at e
  | _, _, 0, x, .cons h _, e => ⟨_, rfl, by
      have : _ = x := Option.some.inj e
      exact this ▸ h⟩
  | _, _, i + 1, x, .cons _ hs, e => by
    have e' := e
    simp only [List.getElem?_cons_succ] at e' ⊢
    exact hs.getV e'

/-! ### the box of draws -/
structure BoxI (x y z : Int) : Prop where
  x0 : 0 ≤ x
  y1 : 1 ≤ y
  y2 : y ≤ 2147483629
def boxL (x y z : Int) : List V := [.int x, .int y, .int z]
def Box (H : Hp) (b : Addr) : Prop := ∃ x y z, H b = some (.lst (boxL x y z)) ∧ BoxI x y z
/-- all but the list at b is as it was -/
def But (b : Addr) (H H' : Hp) : Prop := ∀ a o, a ≠ b → H a = some o → H' a = some o
theorem But.refl (b : Addr) (H : Hp) : But b H H := fun _ _ _ h => h
theorem But.trans {b : Addr} {H H1 H2 : Hp} (x : But b H H1) (y : But b H1 H2) : But b H H2 := fun a o n h => y a o n (x a o n h)
theorem But.of_same {b : Addr} {H H' : Hp} (s : Same H H') : But b H H' := fun a o _ h => s a o h
theorem But.upd {b : Addr} {H H' : Hp} {o : HO} (s : But b H H') : But b H (upd H' b o) := fun a u n h => by
  rw [upd_ne n]
  exact s a u n h
theorem Box.same {b : Addr} {H H' : Hp} (x : Box H b) (s : Same H H') : Box H' b := by
  obtain ⟨x, y, z, h, i⟩ := x
  exact ⟨x, y, z, s _ _ h, i⟩
theorem Box.fz {b : Addr} {H H' : Hp} (x : Box H b) (s : But b H H') : Fz H H' := fun a o f h => by
  refine s a o ?_ h
  rintro rfl
  obtain ⟨x, y, z, h', i⟩ := x
  rw [h'] at h
  cases h
  exact f
theorem Box.ne_none {b p : Addr} {H : Hp} (x : Box H b) (h : H p = none) : p ≠ b := by
  rintro rfl
  obtain ⟨x, y, z, h', i⟩ := x
  rw [h] at h'
  cases h'
theorem ifB {b : Bool} {A B : Prop} (h1 : b = true → A) (h2 : b = false → B) : if b = true then A else B := by
  cases b with
  | true => rw [if_pos rfl]; exact h1 rfl
  | false => rw [if_neg Bool.false_ne_true]; exact h2 rfl
theorem ifD {c A B : Prop} [Decidable c] (h1 : c → A) (h2 : ¬ c → B) : if decide c = true then A else B := ifB (fun e => h1 (of_decide_eq_true e)) (fun e => h2 (of_decide_eq_false e))
theorem ifN {c A B : Prop} [Decidable c] (h1 : ¬ c → A) (h2 : c → B) : if (!decide c) = true then A else B := by
  by_cases h : c
  · rw [decide_eq_true h]; exact h2 h
  · rw [decide_eq_false h]; exact h1 h
theorem ifT {b : Bool} {A B : Prop} (e : b = true) (h1 : A) : if b = true then A else B := by rw [if_pos e]; exact h1
theorem ifF {b : Bool} {A B : Prop} (e : b = false) (h1 : B) : if b = true then A else B := by rw [e, if_neg Bool.false_ne_true]; exact h1
theorem szL {n : Nat} (h : n ≤ 1000) : n ≤ sizeLine := Nat.le_trans h (by decide)
theorem szl {n : Nat} (h : n ≤ 1000) : n < sizeLine := Nat.lt_of_le_of_lt h (by decide)
theorem atI_ok {xs : List V} {i : Int} {j : Nat} {v : V} (h0 : 0 ≤ i) (e : i.toNat = j) (h : xs[j]? = some v) : atI xs i = some v := at_of (by omega) h
theorem ints_at {ns : List Int} {k : Int} (h0 : 0 ≤ k) (h1 : k < ns.length) : ∃ z, atI (ns.map V.int) k = some (.int z) := by
  have h2 : k.toNat < ns.length := by omega
  exact ⟨ns[k.toNat], atI_ok h0 rfl (by rw [List.getElem?_map, List.getElem?_eq_getElem h2]; rfl)⟩
theorem range_succ_map {α : Type} (f : Nat → α) (i : Nat) : (List.range (i + 1)).map f = (List.range i).map f ++ [f i] := by
  rw [List.range_succ, List.map_append]; rfl
theorem DtAll.snoc {K : PySem.W.Frag} {H : Hp} {v : List V} {d : List PyData} {x : V} {y : PyData} (h : DtAll K H v d) (k : Dt K H x y) : DtAll K H (v ++ [x]) (d ++ [y]) := h.append (.cons k .nil)
theorem same_lst {H H' : Hp} {p : Addr} {o : HO} (s : Same H H') (n : H p = none) : Same H (upd H' p o) := fun a u e => by
  rw [upd_ne (ne_of_none e n)]
  exact s a u e
theorem natAbs_abs {i : Int} : 0 ≤ (if i < 0 then -i else i) := by split <;> omega
theorem pick2 (b : Bool) (u v : Int) : atI [.int u, .int v] (if b = true then 1 else 0) = some (V.int (if b = true then v else u)) := by
  cases b <;> rfl
theorem ite_ge0 {b : Bool} {u v : Int} (h1 : 0 ≤ u) (h2 : 0 ≤ v) : 0 ≤ (if b = true then v else u) := by cases b <;> assumption
theorem mem_at {xs : List V} {k : Int} (h0 : 0 ≤ k) (h1 : k < xs.length) : ∃ v, v ∈ xs ∧ atI xs k = some v := by
  have h2 : k.toNat < xs.length := by omega
  exact ⟨xs[k.toNat], List.getElem_mem h2, atI_ok h0 rfl (List.getElem?_eq_getElem h2)⟩
/-! reading tuples of data -/
def atD (ds : List PyData) (i : Int) : Option PyData := (ixN ds.length i).bind fun j => ds[j]?
theorem DtAll.at {K : PySem.W.Frag} {H : Hp} {xs : List V} {ds : List PyData} {i : Int} {d : PyData} (h : DtAll K H xs ds) (e : atD ds i = some d) : ∃ v, atI xs i = some v ∧ Dt K H v d := by
  unfold atD at e
  unfold atI
  rw [h.length]
  cases q : ixN ds.length i with
  | none => rw [q] at e; cases e
  | some j =>
    rw [q] at e
    exact h.get e
theorem rix_dt {K : PySem.W.Frag} {H : Hp} {v : V} {i : Int} {ds : List PyData} {d : PyData} {Q : VK} (h : Dt K H v (.tuple ds)) (e : atD ds i = some d) (q : ∀ y, Dt K H y d → Q y H) : rIxT K v (.int i) H Q := by
  cases h with
  | tup hs ha =>
    obtain ⟨y, h1, h2⟩ := ha.at e
    exact ⟨_, _, _, _, rfl, rfl, hs, h1, q y h2⟩
theorem Dt.int_eq {K : PySem.W.Frag} {H : Hp} {v : V} {i : Int} (h : Dt K H v (.int i)) : v = .int i := by cases h; rfl
theorem Dt.str_eq {K : PySem.W.Frag} {H : Hp} {v : V} {i : Str} (h : Dt K H v (.str i)) : v = .str i := by cases h; rfl
theorem atD_nat {ds : List PyData} {j : Nat} {d : PyData} (e : ds[j]? = some d) : atD ds ((j : Nat) : Int) = some d := by
  have h := (List.getElem?_eq_some_iff.mp e).1
  unfold atD ixN
  rw [if_pos (by omega), if_pos (by omega)]
  exact e
theorem atD_last {ds : List PyData} {d : PyData} (h : 0 < ds.length) (e : ds[ds.length - 1]? = some d) : atD ds (-1) = some d := by
  unfold atD ixN
  rw [if_neg (by omega), if_pos (by omega)]
  show ds[((-1 : Int) + ds.length).toNat]? = some d
  rw [show ((-1 : Int) + ds.length).toNat = ds.length - 1 by omega]
  exact e
def tyD : PyData → String
  | .none => "NoneType"
  | .bool _ => "bool"
  | .int _ => "int"
  | .str _ => "str"
  | .list _ => "list"
  | .tuple _ => "tuple"
  | .dict _ => "dict"
theorem sqT_ty {K : PySem.W.Frag} {H : Hp} {a : Addr} {xs : List V} (h : SqT K H a xs) : TyX K H (.ref a) (.type "tuple") := by
  rcases h with (h | ⟨o, h⟩) | ⟨o, its, n, h1, h2, _⟩
  · exact .base (.tup h)
  · exact .fTuple h
  · exact .kTuple h1 h2
theorem Dt.ty {K : PySem.W.Frag} {H : Hp} {v : V} {d : PyData} (h : Dt K H v d) : TyX K H v (.type (tyD d)) := by
  cases h with
  | non => exact .base .non
  | bl b => exact .base (.bl b)
  | int i => exact .base (.int i)
  | str x => exact .base (.str x)
  | tup h _ => exact sqT_ty h
theorem neF {a b : Int} (h : a = b) : (!decide (V.int a = V.int b)) = false := by rw [h]; simp
theorem Dt.len {K : PySem.W.Frag} {H : Hp} {a : Addr} {ds : List PyData} (h : Dt K H (.ref a) (.tuple ds)) : ∃ xs, SqT K H a xs ∧ xs.length = ds.length ∧ DtAll K H xs ds := by
  cases h with
  | tup h hs => exact ⟨_, h, hs.length, hs⟩

structure okD (k : Nat) (d : PyData) : Prop where
  lay : d.canLay0 = true
  dep : d.depth ≤ k
theorem okD.mono {k l : Nat} {d : PyData} (h : okD k d) (e : k ≤ l) : okD l d := ⟨h.lay, Nat.le_trans h.dep e⟩
theorem okD_all {k : Nat} : ∀ {ds : List PyData}, (∀ d ∈ ds, okD k d) → PyData.canLayAll0 ds = true ∧ PyData.depthAll ds ≤ k
  | [], _ => ⟨rfl, Nat.zero_le _⟩
  | d :: ds, h => by
    have h1 := h d List.mem_cons_self
    have h2 := okD_all (ds := ds) fun x hx => h x (List.mem_cons_of_mem _ hx)
    refine ⟨?_, ?_⟩
    · show (PyData.canLay0 d && PyData.canLayAll0 ds) = true
      rw [h1.lay, h2.1]; rfl
    · show max (PyData.depth d) (PyData.depthAll ds) ≤ k
      exact Nat.max_le.mpr ⟨h1.dep, h2.2⟩
theorem okD.tuple {k : Nat} {ds : List PyData} (h : ∀ d ∈ ds, okD k d) : okD (k + 1) (.tuple ds) :=
  have q := okD_all h
  ⟨q.1, Nat.succ_le_succ q.2⟩
theorem okD.list {k : Nat} {ds : List PyData} (h : ∀ d ∈ ds, okD k d) : okD (k + 1) (.list ds) :=
  have q := okD_all h
  ⟨q.1, Nat.succ_le_succ q.2⟩
theorem okD.shaped {k : Nat} {d : PyData} (h : okD k d) (hk : k ≤ 64) : SeqAt.shaped d = true := by
  unfold SeqAt.shaped
  rw [h.lay, decide_eq_true (Nat.le_trans h.dep hk)]; rfl
theorem eqv_self {k : Nat} {d : PyData} (h : okD k d) : PyData.eqv d d = true := SeqAt.eqv_refl d h.lay
theorem rne_dt {K : PySem.W.Frag} {H : Hp} {x y : V} {k : Nat} {d : PyData} {Q : VK} (hx : Dt K H x d) (hy : Dt K H y d) (o : okD k d) (hk : k ≤ 64) (q : Q (.bl false) H) : rNeD K x y H Q :=
  ⟨d, d, hx.dp, hy.dp, o.shaped hk, o.shaped hk, by rw [eqv_self o]; exact q⟩
theorem req_dt {K : PySem.W.Frag} {H : Hp} {x y : V} {k : Nat} {d : PyData} {Q : VK} (hx : Dt K H x d) (hy : Dt K H y d) (o : okD k d) (hk : k ≤ 64) (q : Q (.bl true) H) : rEqD K x y H Q :=
  ⟨d, d, hx.dp, hy.dp, o.shaped hk, o.shaped hk, by rw [eqv_self o]; exact q⟩

theorem atD0 {ds : List PyData} {d : PyData} (e : ds[0]? = some d) : atD ds 0 = some d := atD_nat (j := 0) e
theorem atD1 {ds : List PyData} {d : PyData} (e : ds[1]? = some d) : atD ds 1 = some d := atD_nat (j := 1) e
theorem atD2 {ds : List PyData} {d : PyData} (e : ds[2]? = some d) : atD ds 2 = some d := atD_nat (j := 2) e
theorem atD3 {ds : List PyData} {d : PyData} (e : ds[3]? = some d) : atD ds 3 = some d := atD_nat (j := 3) e
theorem atDi {ds : List PyData} {d : PyData} {i : Int} {j : Nat} (h : i = (j : Int)) (e : ds[j]? = some d) : atD ds i = some d := by
  subst h
  exact atD_nat e

theorem floor_step {a b n : Int} (h : 0 < n) : b / n ≤ (a + b) / n - a / n ∧ (a + b) / n - a / n ≤ b / n + 1 := by
  have ha := Int.emod_add_mul_ediv a n
  have hb := Int.emod_add_mul_ediv b n
  have a0 := Int.emod_nonneg a (show n ≠ 0 by omega)
  have a1 := Int.emod_lt_of_pos a h
  have b0 := Int.emod_nonneg b (show n ≠ 0 by omega)
  have b1 := Int.emod_lt_of_pos b h
  have e : (a + b) / n = a / n + b / n + (a % n + b % n) / n := by
    have : a + b = (a % n + b % n) + n * (a / n + b / n) := by rw [Int.mul_add]; omega
    rw [this, Int.add_mul_ediv_left _ _ (by omega), Int.add_comm]
  have q0 : 0 ≤ (a % n + b % n) / n := Int.ediv_nonneg (by omega) (by omega)
  have q1 : (a % n + b % n) / n < 2 := by
    apply Int.ediv_lt_of_lt_mul h
    omega
  omega

theorem take_snoc {α : Type} {l : List α} {i : Nat} {x : α} (h : l[i]? = some x) : l.take (i + 1) = l.take i ++ [x] := by
  rw [List.take_add_one, h]; rfl
theorem map_int_get {acc : List Int} {i : Nat} {x : V} (h : (acc.map V.int)[i]? = some x) : ∃ z, acc[i]? = some z ∧ x = .int z := by
  rw [List.getElem?_map] at h
  cases e : acc[i]? with
  | none => rw [e] at h; cases h
  | some z =>
    rw [e] at h
    exact ⟨z, rfl, (Option.some.inj h).symm⟩

theorem Dt.ix {K : PySem.W.Frag} {H : Hp} {v : V} {i : Int} {ds : List PyData} {d : PyData} (h : Dt K H v (.tuple ds)) (e : atD ds i = some d) : ∃ a xs y, v = .ref a ∧ SqT K H a xs ∧ atI xs i = some y ∧ Dt K H y d := by
  cases h with
  | tup hs ha =>
    obtain ⟨y, h1, h2⟩ := ha.at e
    exact ⟨_, _, _, rfl, hs, h1, h2⟩

/-! displays of data -/
def EvD (K : PySem.W.Frag) (te : TE) (σ : L2.St) (H : Hp) (d : PyData) : Prop := ∀ Q : VK, (∀ v H', Same H H' → Dt K H' v d → Q v H') → te σ H Q
def EvDs (K : PySem.W.Frag) (ta : TA) (σ : L2.St) (H : Hp) (ds : List PyData) : Prop := ∀ Q : List V → Hp → Prop, (∀ vs H', Same H H' → DtAll K H' vs ds → Q vs H') → ta σ H Q
section
variable {K : PySem.W.Frag} {σ : L2.St} {H : Hp}
theorem evd_int {i : Int} : EvD K (tC (.int i)) σ H (.int i) := fun _ q => q _ _ (Same.refl _) (.int i)
theorem evd_str {i : Str} : EvD K (tC (.str i)) σ H (.str i) := fun _ q => q _ _ (Same.refl _) (.str i)
theorem evd_non : EvD K (tC .non) σ H .none := fun _ q => q _ _ (Same.refl _) .non
theorem evd_bl {b : Bool} : EvD K (tC (.bl b)) σ H (.bool b) := fun _ q => q _ _ (Same.refl _) (.bl b)
theorem evd_nil : EvDs K tNil σ H [] := fun _ q => q _ _ (Same.refl _) .nil
theorem evd_cons {te : TE} {ta : TA} {d : PyData} {ds : List PyData} (h : EvD K te σ H d) (hr : ∀ H', EvDs K ta σ H' ds) : EvDs K (tCons te ta) σ H (d :: ds) := fun Q q =>
  h _ fun v H1 s1 d1 => hr H1 _ fun vs H2 s2 d2 => q _ _ (s1.trans s2) (.cons (d1.mono (Fz.of_same s2)) d2)
theorem evd_tup {ta : TA} {ds : List PyData} (h : EvDs K ta σ H ds) (hl : ds.length ≤ 1000) : EvD K (tTup ta) σ H (.tuple ds) := fun Q q =>
  h _ fun vs H1 s1 d1 => ⟨szL (by rw [d1.length]; exact hl), fun p hp => q _ _ (s1.trans (same_new hp)) (.tup (SqT.of upd_same) (d1.mono (Fz.new hp)))⟩
end
theorem same_but {b : Addr} {H H1 H2 : Hp} (s : Same H H1) (k : But b H1 H2) (n : H b = none) : Same H H2 := fun a o h => k a o (ne_of_none h n) (s a o h)

theorem rel_ref (a : Addr) : RelV (.ref a) (Value.ref a) := rfl
end Rs
/-! Own exceptions with a field; objects made within a try. -/
namespace Rs
open PySem PySem.Spec PyProof.Rows L2
/-! ### C(e, ..) where what its __init__ lets out is wished for at the caller's slots -/
section
variable {X : Cx} {CX : CXT} {k : Nat} {f C : Addr} {fd : FuncData} {ps : List Str} {sp : Sp} {E : L2.St → XK} {x : Str} {p pos : Pos} {e : Expr} {es : List Expr} {t : TA}
theorem run_makeS {pins : List (Addr × Obj)} {σ : L2.St} {H : Hp} {s : Shared} {Q : VK} {us : List Value} {vs : List V} (M : Mk X.K C f) (F : FnOk X.prog X.w X.K X.mg X.base CX k f fd ps sp) (hr : Room (k + 1) X.A) (hb : Binds X.K fd ps [])
    (hx : PassesAt CX X σ (E σ)) (I : Inv X pins σ H s) (r : Vals vs us)
    (pre : ∀ x dx, H x = none → H dx = none → dx ≠ x → sp (.ref x :: vs) (upd (upd H dx (.own x)) x (.ins C dx [])) (fun v H2 => v = .non ∧ Q (.ref x) H2) (E σ))
    (out : ∀ H1 s1 e s2, Inv X pins σ H1 s1 → L2.CX X.prog X.w X.stack H1 s1 (E σ) e s2 → X.xe e s2) (hCX : CX = L2.CX X.prog X.w) :
    wpAny (model X.prog X.w) X.A (call (.ref C) us) (EP X pins σ Q) X.xe s := by
  subst hCX
  have p0 := pre (s.heap.objs.size + 1) s.heap.objs.size (I.hok.fresh (Nat.le_succ _)) (I.hok.fresh (Nat.le_refl _)) (Nat.ne_of_lt (Nat.lt_succ_self _))
  have J := Inv.made (C := C) I
  have rel : Vals (V.ref (s.heap.objs.size + 1) :: vs) (Value.ref (s.heap.objs.size + 1) :: us) := .cons rfl r
  have n1 : (Value.ref (s.heap.objs.size + 1) :: us).length = ps.length := by rw [← rel.length]; exact F.len _ _ _ _ p0
  have bd := hb _ (Value.ref (s.heap.objs.size + 1) :: us) J.kIn (by rw [List.append_nil]; exact n1)
  rw [List.append_nil] at bd
  have ran := F.run _ X.stack _ _ ⟨Value.ref (s.heap.objs.size + 1) :: us, []⟩ _ _ _ (E σ) (hr.make C us []) (J.env0.make C us []) bd rel p0
  refine wpAny_call (make_map (f := f) I.kIn M.makes M.init (beq_iff_eq.mp M.fn) (codeAny_mono ran fun r s' got => ?_))
  cases r with
  | error e => exact out _ _ _ _ J got
  | ok fl =>
    cases fl with
    | next => exact got.elim
    | brk => exact got.elim
    | cont => exact got.elim
    | ret u =>
      obtain ⟨v, H', J2, rv, rfl, q⟩ := J.after got
      exact ⟨rv, .ref (s.heap.objs.size + 1), H', J2, rfl, q⟩
def tMakeS (C : Addr) (sp : Sp) (E : L2.St → XK) (t : TA) : TE := fun σ H Q => t σ H fun vs H1 => ∀ x dx, H1 x = none → H1 dx = none → dx ≠ x →
  sp (.ref x :: vs) (upd (upd H1 dx (.own x)) x (.ins C dx [])) (fun v H2 => v = .non ∧ Q (.ref x) H2) (E σ)
theorem pe_makeS {W : WX} (M : Mk X.K C f) (F : FnOk X.prog X.w X.K X.mg X.base (L2.CX X.prog X.w) k f fd ps sp) (hr : Room (k + 1) X.A) (hg : Gl X x) (hm : X.mg x = some (.ref C)) (hb : Binds X.K fd ps []) (tk : Takes X W)
    (ha : PA X (e :: es) t) (hdb : (x == ("__debug__" : Str)) = false := by decide) (he : starEach (e :: es) X.env = (false, eval e X.env) :: starEach es X.env := by rfl) (hpl : (backTo pos (starEach es X.env)).any (·.1) = false := by rfl) :
    PE X (.Call (.Name x p) (e :: es) [] pos) (tMakeS C sp (WE W) t) := by
  refine ⟨fun pins s σ H Q I h => wpAny_Call_Name_kw (ld_glob I hg hm ?_ hdb)⟩
  refine PySem.W.callWith_K (h₀ := X.base) I.ok.mod.kin M.kp (thn (ha.run pos pins s σ H _ I h) fun us s1 res => ?_) he hpl
  obtain ⟨vs, H1, I1, r, q⟩ := res
  exact ⟨I1.kIn, run_makeS M F hr hb (passAt tk σ) I1 r q (fun H1 s1 e s2 J c => tk e s2 (XE.of_call J (fun _ _ _ h => h) c)) rfl⟩
end
/-! ### isinstance of a caught exception that has a field -/
structure ExX (K : PySem.W.Frag) (C : Addr) : Prop where
  cl : (PySem.W.clsIn K C).isSome = true
  ga : PySem.W.findIn K (.ref C) "__getattribute__" = some (some (.builtin "BaseException.__getattribute__"))
  gg : PySem.W.findIn K (.ref C) "__getattr__" = some none
  sb : PySem.W.subIn K (.ref C) (.type "BaseException") = some true
  ca : PySem.W.findIn K (.ref C) "__class__" = some (some (.builtin "object.__class__"))
  sp : PySem.W.specialIn K (.builtin "object.__class__") "__get__" = some (some (.builtin "getset_descriptor.__get__"))
  tk : PySem.W.takesIn K (.builtin "object.__class__") = some true
  mo : PySem.W.mroIn K C (.type "object") = some true
section
variable {X : Cx} {pins : List (Addr × Obj)} {σ : L2.St} {H : Hp} {s : Shared} {a C : Addr} {oe : Obj} {cls : Value} {d : Option Addr} {pn : List (Addr × Obj)}
theorem caught_at (I : Inv (X.suite a ((a, oe) :: pn)) pins σ H s) (hz : Zc cls d oe) (hf : ∃ vs, oe.data = .fields vs) {dd : Addr} {fs : List (Str × V)} (ec : cls = .ref C) (ed : d = some dd) (hd : H dd = some (.xd fs)) :
    ∃ od, PySem.W.InstAt s.heap a oe C (some od) := by
  subst ec ed
  obtain ⟨here, _⟩ := I.pin (a, oe) (List.mem_append_left _ List.mem_cons_self)
  obtain ⟨vs, hv⟩ := hf
  obtain ⟨mA, ns, _⟩ := (show ObjOk X.prog X.w H s.heap dd (.xd fs) from I.hok dd _ hd)
  obtain ⟨od, ho, _⟩ := lookIn_ns ns
  exact ⟨od, here, hz.1, by unfold PySem.W.notCls; rw [hv] <;> rfl, by rw [hz.2]; exact ho⟩
def rIsX (K : PySem.W.Frag) (a : Addr) (cls : Value) (d : Option Addr) (C : Addr) : List V → Hp → VK → Prop := fun xs H Q => ∃ (c : V) (cv : Value) (b : Bool) (dd : Addr) (fs : List (Str × V)), xs = [.ref a, c] ∧ ClsV c cv ∧ cls = .ref C ∧ d = some dd ∧ H dd = some (.xd fs) ∧ PySem.W.kitOne K (.ref C) cv = some b ∧ Q (.bl b) H
theorem call_isX (T : ExX X.K C) (hz : Zc cls d oe) (hf : ∃ vs, oe.data = .fields vs) : CallR (X.suite a ((a, oe) :: pn)) (.builtin "isinstance") (rIsX X.K a cls d C) := by
  intro pins s σ H xs us Q I r h
  obtain ⟨c, cv, b, dd, fs, rfl, kc, ec, ed, hd, e, q⟩ := h
  obtain ⟨u1, u2, rfl, r1, r2⟩ := vals2 r
  obtain rfl := kc.eq r2
  cases (show u1 = Value.ref a from r1)
  obtain ⟨od, J⟩ := caught_at I hz hf ec ed hd
  exact PySem.W.kia_one (PySem.W.kitx_exc T.cl T.ga T.gg T.sb T.ca T.sp T.tk T.mo) I.kIn J e (fun z => nomatch z) fun tk => ⟨.bl b, H, I.tok tk, rfl, q⟩
def rIsXT (K : PySem.W.Frag) (a : Addr) (cls : Value) (d : Option Addr) (C : Addr) : List V → Hp → VK → Prop := fun xs H Q => ∃ (tp : Addr) (cs : List V) (ws : List Value) (b : Bool) (dd : Addr) (fs : List (Str × V)), xs = [.ref a, .ref tp] ∧ H tp = some (.tup cs) ∧ Paired ClsV cs ws ∧
  cls = .ref C ∧ d = some dd ∧ H dd = some (.xd fs) ∧ PySem.W.kitAny K (.ref C) ws = some b ∧ Q (.bl b) H
theorem call_isXT (T : ExX X.K C) (hz : Zc cls d oe) (hf : ∃ vs, oe.data = .fields vs) : CallR (X.suite a ((a, oe) :: pn)) (.builtin "isinstance") (rIsXT X.K a cls d C) := by
  intro pins s σ H xs us Q I r h
  obtain ⟨tp, cs, ws, b, dd, fs, rfl, hT, kc, ec, ed, hd, e, q⟩ := h
  obtain ⟨u1, u2, rfl, r1, r2⟩ := vals2 r
  cases (show u1 = Value.ref a from r1)
  cases (show u2 = Value.ref tp from r2)
  obtain ⟨od, J⟩ := caught_at I hz hf ec ed hd
  obtain ⟨_, its, rv, o, h1, h2, n, h3⟩ := (show ObjOk X.prog X.w H s.heap tp (.tup cs) from I.hok tp _ hT)
  obtain rfl := ClsV.all kc rv
  obtain ⟨oc, od', dt, sl⟩ := o
  simp only at h2 h3
  subst h2 h3
  exact PySem.W.kia_tup (PySem.W.kitx_exc T.cl T.ga T.gg T.sb T.ca T.sp T.tk T.mo) I.kIn J h1 e (fun z => nomatch z) fun tk => ⟨.bl b, H, I.tok tk, rfl, q⟩
end
/-! ### the promise of an __init__(self, word): self.word = word -/
def spExc (C : Addr) (f : Str) : Sp := fun vs H Q _ => ∃ (a : Addr) (v : V), vs = [.ref a, v] ∧ H a = some (exo a C none) ∧ ∀ dx, H dx = none → dx ≠ a → Q .non (upd (upd H dx (exd dx [(f, v)])) a (exo a C (some dx)))
/-- the heap behind an exception's making -/
theorem made_heap {H : Hp} {a dx : Addr} {o1 o2 o3 o : HO} (ha : H a = none) (ne : dx ≠ a) : upd (del (upd (upd (upd H a o1) dx o2) a o3) a) dx o = upd H dx o := by
  funext b
  by_cases h1 : b = dx
  · subst h1; rw [upd_same, upd_same]
  · rw [upd_ne h1, upd_ne h1]
    by_cases h2 : b = a
    · subst h2; rw [del_same, ha]
    · rw [del_ne h2, upd_ne h2, upd_ne h1, upd_ne h2]
/-- what C(v) asks, where C's __init__ keeps spExc: its dict is new, the rest as it was -/
theorem make_exc {C : Addr} {f : Str} {v : V} {σ : L2.St} {H : Hp} {Q : XK} (h : ∀ d, H d = none → Q (.ref C) (some d) (upd H d (.xd [(f, v)]))) : tMkO C (spExc C f) [] (tCons (tC v) tNil) σ H Q := by
  refine ⟨by show 1 ≤ 1000; decide, fun a ha => ⟨a, v, rfl, upd_same, fun dx hdx ne => ⟨rfl, dx, [(f, v)], upd_same, by rw [upd_ne ne, upd_same], ?_, ?_⟩⟩⟩
  · rw [upd_ne ne] at hdx
    exact hdx
  · rw [made_heap ha ne]
    exact h dx (by rw [upd_ne ne] at hdx; exact hdx)
end Rs
/-! raise X() of an own class without an __init__. -/
namespace Rs
open PySem PySem.Spec PyProof.Rows L2
section
variable {X : Cx}
theorem pmk_own0 {C : Addr} {bmB : List Value} {B newId initId : String} {x : Str} {p pos : Pos} (F : ExcBaseFacts B newId initId bmB) (q : PySem.W.excIn X.K C bmB newId = true) (gC : X.mg x = some (.ref C)) (kC : PySem.W.keepIn X.K (.ref C) = true) (r : Raises X (.ref C)) (hg : Gl X x)
    (hdb : (x == ("__debug__" : Str)) = false := by decide) : PMk X (.Call (.Name x p) [] [] pos) (fun _ H Q => Q (.ref C) none H) := by
  intro pins s σ H Q I h
  refine wpAny_Call_Name_kw (ld_glob I hg gC ?_ hdb)
  refine PySem.W.callWith_K0 I.kIn kC ?_
  show wpAny _ _ (call (.ref C) []) _ _ _
  obtain ⟨bm, N, nm, qn, bs, hdct, sn, sub, ab, col, dd, k0, k1, k2, k3, k5, mN, hC, hN, hni, T⟩ := exc_obj I.kIn q
  refine wpAny_call_exc_subT F T hC hN hni (fun h' e hm => ?_) (Nat.zero_le _)
  exact mk_of I hm r h (I.hok.gone hm.new)
end
end Rs
/-! Values of any kind, told by their outermost shape. -/
namespace Rs
open PySem PySem.Spec PyProof.Rows L2
def Sh (b : Addr) (H : Hp) : V → Prop
  | .non => True
  | .bl _ => True
  | .int _ => True
  | .str _ => True
  | .ref a => a ≠ b ∧ ((∃ xs, H a = some (.lst xs)) ∨ ∃ xs, H a = some (.tup xs))
  | _ => False
theorem Sh.but {b : Addr} {H H' : Hp} {v : V} (h : Sh b H v) (k : But b H H') : Sh b H' v := by
  cases v with
  | ref a =>
    obtain ⟨ne, ⟨xs, e⟩ | ⟨xs, e⟩⟩ := h
    · exact ⟨ne, .inl ⟨xs, k a _ ne e⟩⟩
    · exact ⟨ne, .inr ⟨xs, k a _ ne e⟩⟩
  | non => trivial
  | bl _ => trivial
  | int _ => trivial
  | str _ => trivial
  | byt _ => exact h
  | flt _ => exact h
  | ty _ => exact h
def isInt : V → Bool
  | .int _ => true
  | _ => false
def isBl : V → Bool
  | .bl _ => true
  | _ => false
theorem Sh.ty {K : PySem.W.Frag} {b : Addr} {H : Hp} {v : V} (h : Sh b H v) : ∃ t, TyX K H v (.type t) ∧ kitB t "int" = some (isInt v || isBl v) ∧ kitB t "bool" = some (isBl v) := by
  cases v with
  | non => exact ⟨"NoneType", .base .non, by decide +kernel, by decide +kernel⟩
  | bl x => exact ⟨"bool", .base (.bl x), (by decide +kernel : kitB "bool" "int" = some true), (by decide +kernel : kitB "bool" "bool" = some true)⟩
  | int x => exact ⟨"int", .base (.int x), (by decide +kernel : kitB "int" "int" = some true), (by decide +kernel : kitB "int" "bool" = some false)⟩
  | str x => exact ⟨"str", .base (.str x), (by decide +kernel : kitB "str" "int" = some false), (by decide +kernel : kitB "str" "bool" = some false)⟩
  | ref a =>
    obtain ⟨ne, ⟨xs, e⟩ | ⟨xs, e⟩⟩ := h
    · exact ⟨"list", .base (.lst e), (by decide +kernel : kitB "list" "int" = some false), (by decide +kernel : kitB "list" "bool" = some false)⟩
    · exact ⟨"tuple", .base (.tup e), (by decide +kernel : kitB "tuple" "int" = some false), (by decide +kernel : kitB "tuple" "bool" = some false)⟩
  | byt _ => exact h.elim
  | flt _ => exact h.elim
  | ty _ => exact h.elim
/-- whether a value is an integer that is no bool -/
def spWhole : Sp := fun vs H Q _ => ∃ (b : Addr) (v : V), vs = [v] ∧ Sh b H v ∧ Q (.bl (isInt v)) H
theorem isInt_bl {v : V} : (isInt v || isBl v) = true → (!isBl v) = isInt v := by cases v <;> simp [isInt, isBl]
theorem isInt_no {v : V} : (isInt v || isBl v) = false → false = isInt v := by cases v <;> simp [isInt, isBl]
/-- repr of None and of a text -/
def reprV : V → Str
  | .str x => reprText x
  | _ => "None"
theorem call_repr1 {X : Cx} : CallR X (.builtin "repr") (fun xs H Q => ∃ v, xs = [v] ∧ (v = .non ∨ ∃ x : Str, v = .str x ∧ (reprText x).length ≤ sizeLine) ∧ Q (.str (reprV v)) H) := by
  intro pins s σ H xs us Q I r h
  obtain ⟨v, rfl, rfl | ⟨x, rfl, ln⟩, q⟩ := h
  · obtain ⟨u, rfl, ru⟩ := vals1 r
    obtain rfl : u = Value.none := ru
    exact PySem.P.repr_of_none ⟨.str _, H, I.tok _, ⟨_, rfl⟩, q⟩
  · obtain ⟨u, rfl, t, rfl⟩ := vals1 r
    exact PySem.P.repr_of_str ⟨.str _, H, I.tok _, ⟨_, rfl⟩, q⟩ ln
theorem but_new {b D : Addr} {H H' : Hp} {o : HO} (k : But b H H') (n : H D = none) : But b H (upd H' D o) := fun a u ne e => by
  rw [upd_ne (ne_of_none e n)]
  exact k a u ne e
theorem box_ne {b D : Addr} {H : Hp} {o : HO} (B : Box H b) (ne : D ≠ b) : Box (upd H D o) b := by
  obtain ⟨x, y, z, h, i⟩ := B
  exact ⟨x, y, z, by rw [upd_ne ne.symm]; exact h, i⟩

theorem look1 {f : Str} {v : V} : List.lookup f [(f, v)] = some v := by simp [List.lookup]
theorem Sh.set {b t : Addr} {H : Hp} {v : V} {xs ys : List V} (h : Sh b H v) (e : H t = some (.lst xs)) : Sh b (upd H t (.lst ys)) v := by
  cases v with
  | ref a =>
    obtain ⟨ne, q⟩ := h
    refine ⟨ne, ?_⟩
    by_cases c : a = t
    · subst c
      exact .inl ⟨_, upd_same⟩
    · rw [upd_ne c]
      exact q
  | non => trivial
  | bl _ => trivial
  | int _ => trivial
  | str _ => trivial
  | byt _ => exact h
  | flt _ => exact h
  | ty _ => exact h
end Rs
/-! == and != by an own __eq__, with either answer, of anything. -/
namespace Rs
open PySem PySem.Spec PyProof.Rows L2
/-- what of the class at C: its own __eq__ is g, its != is object's -/
structure OwnQ (K : PySem.W.Frag) (C g : Addr) : Prop where
  eq : PySem.W.findIn K (.ref C) "__eq__" = some (some (.ref g))
  fn : PySem.W.isFn K (.ref g) = true
  ne : PySem.W.findIn K (.ref C) "__ne__" = some (some (.builtin "object.__ne__"))
  mo : PySem.W.mroIn K C (.type "object") = some true
section
variable {M : Model} {prog : Program} {w : World} {A : Around} {E : Value → Shared → Prop} {s : Shared} {K : PySem.W.Frag} {x C f L : Addr} {ox : Obj} {od : Option Obj} {h₀ : Heap} {m : Str → Option Value} {b tb : Value}
theorem ifBound_objNe {args : List Value} {Q : Option Value → Shared → Prop} (X : K.In s.heap) (I : PySem.W.InstAt s.heap x ox C od) (hs : PySem.W.findIn K (.ref C) "__ne__" = some (some (.builtin "object.__ne__")))
    (h : wpAny M A (call (.builtin "object.__ne__") (.ref x :: args)) (fun v => Q (some v)) E s) : wpAny M A (callSpecialIfBound? (.ref x) "__ne__" args) Q E s := by
  simp only [callSpecialIfBound?, bindSpecialIfBound?]
  refine wpAny_holding (wpAny_bind (wpAny_bind (wpAny_bind (I.type.here ((PySem.W.looks_findIn X hs).here ?_)))))
  refine wpAny_bind (wpAny_askSetting (wpAny_ite ?_))
  have fin : wpAny M A (call (.builtin "object.__ne__") ([.ref x] ++ args) >>= fun v => pure (some v)) Q E s := wpAny_bind (wpAny_mono h (fun v s' h' => wpAny_pure h') fun _ _ h' => h')
  split
  · exact wpAny_bind (wpAny_of_eq (F.cmp_object.ne.bind _) (wpAny_pure (by exact fin)))
  · exact wpAny_tryCatch (wpAny_bind (wpAny_of_eq (F.cmp_object.ne.bind _) (wpAny_pure (by exact fin))))
theorem objNe_entry (hu : A.units < cLine) (X : K.In s.heap) (I : PySem.W.InstAt s.heap x ox C od) (O : OwnQ K C f) {Q : Fin → Shared → Prop}
    (hcall : wpAny (model prog w) A (call (.ref f) [.ref x, b]) (fun v s' => ∃ r, v = .bool r ∧ Q (.done (.ret (.bool (!r)))) s') E s) :
    wpAny (model prog w) A (Builtin.«object.__ne__» ⟨[.ref x, b], []⟩) Q E s := by
  unfold Builtin.«object.__ne__»
  repeat (first
    | with_reducible refine wpAny_cRoomFor hu ?_
    | (refine wpAny_bind (m := callSpecialIfBound? (.ref x) (Str.ofString "__eq__") [b])
        (PySem.W.ifBound_K X I O.eq O.fn (wpAny_mono hcall (fun v s' hr => by
          obtain ⟨r, rfl, hq⟩ := hr
          repeat (first | exact hq | exact wpAny_pure hq | exact wpAny_truthy_bool hq | (refine wpAny_bind (m := truthy (.bool _)) (wpAny_truthy_bool ?_)) | wp_step)) fun _ _ e => e)))
    | wp_step)
theorem tryCompare_neO (hu : A.units + 1 < cLine) (X : K.In s.heap) (I : PySem.W.InstAt s.heap x ox C od) (O : OwnQ K C f) {Q : Option Value → Shared → Prop}
    (hcall : wpAny (model prog w) A.in1 (call (.ref f) [.ref x, b]) (fun v s' => ∃ r, v = .bool r ∧ Q (some (.bool (!r))) s') E s) : wpAny (model prog w) A (tryCompare (.ref x) "__ne__" b) Q E s := by
  simp only [tryCompare]
  refine wpAny_bind (ifBound_objNe X I O.ne (wpAny_call (codeAny_call_builtin F.cmp_object.ne.plain F.cmpEntry_ne
    (PySem.W.check_slot F.cmpKind_ne F.cmpSplit_ne (I.type.andThen (PySem.W.looks_mroIn X O.mo)) (F.cmpArgs_ne _ _)
      (objNe_entry (A := A.in1) hu X I O (wpAny_mono hcall (fun v s' hv => ?_) fun _ _ e => e))))))
  obtain ⟨r, rfl, hq⟩ := hv
  first | exact ⟨r, rfl, wpAny_pure hq⟩ | exact ⟨r, rfl, wpAny_pure (wpAny_pure hq)⟩ | exact ⟨r, rfl, hq⟩
theorem rc_neO (hu : A.units + 1 < cLine) (X : K.In s.heap) (I : PySem.W.InstAt s.heap x ox C od) (O : OwnQ K C f) (hb : PySem.W.Looks (model prog w) s.heap (typeOf b) tb) (hn : PySem.W.notFirst K C tb = true) {Q : Value → Shared → Prop}
    (hcall : wpAny (model prog w) A.in1 (call (.ref f) [.ref x, b]) (fun v s' => ∃ r, v = .bool r ∧ Q (.bool (!r)) s') E s) : wpAny (model prog w) A (richCompare .NotEq (.ref x) b) Q E s := by
  have one : wpAny (model prog w) A (tryCompare (.ref x) "__ne__" b) (fun r s' => ∃ v, r = some v ∧ Q v s') E s := tryCompare_neO hu X I O (wpAny_mono hcall (fun v s' hv => by
    obtain ⟨r, rfl, hq⟩ := hv
    exact ⟨r, rfl, _, rfl, hq⟩) fun _ _ e => e)
  unfold richCompare
  simp only [oneThing_ref]
  refine wpAny_holding (wpAny_bind (wpAny_cRoomFor (Nat.lt_of_succ_lt hu) ?_))
  refine wpAny_bind (I.type.here (wpAny_bind (hb.here ?_)))
  split
  · rename_i q
    have e : PySem.W.subIn K tb (.ref C) = some false := by
      rcases Bool.or_eq_true_iff.mp hn with e | e
      · rw [beq_iff_eq.mp e] at q; simp at q
      · exact beq_iff_eq.mp e
    refine wpAny_bind ((PySem.W.looks_subIn X e).here ?_)
    simp only [Bool.false_eq_true, if_false]
    refine wpAny_bind (wpAny_mono one (fun r s' z => ?_) fun _ _ e => e)
    obtain ⟨v, rfl, hq⟩ := z
    exact wpAny_pure hq
  · refine wpAny_bind (wpAny_pure ?_)
    simp only [Bool.false_eq_true, if_false]
    refine wpAny_bind (wpAny_mono one (fun r s' z => ?_) fun _ _ e => e)
    obtain ⟨v, rfl, hq⟩ := z
    exact wpAny_pure hq
end
theorem notFirst_ty {K : PySem.W.Frag} {C : Addr} {T : String} {ns : List String} (e : fastBuiltinMro T = some (ns.map Value.type)) : PySem.W.notFirst K C (.type T) = true := by
  have : PySem.W.subIn K (.type T) (.ref C) = some false := by
    show (fastBuiltinMro T).map (·.contains (.ref C)) = some false
    rw [e]
    simp
  unfold PySem.W.notFirst
  rw [this]
  simp
theorem notFirst_self {K : PySem.W.Frag} {C : Addr} : PySem.W.notFirst K C (.ref C) = true := by simp [PySem.W.notFirst]
theorem nf_none {K : PySem.W.Frag} {C : Addr} : PySem.W.notFirst K C (.type "NoneType") = true := notFirst_ty (ns := ["NoneType", "object"]) (by decide +kernel)
theorem nf_bool {K : PySem.W.Frag} {C : Addr} : PySem.W.notFirst K C (.type "bool") = true := notFirst_ty (ns := ["bool", "int", "object"]) (by decide +kernel)
theorem nf_int {K : PySem.W.Frag} {C : Addr} : PySem.W.notFirst K C (.type "int") = true := notFirst_ty (ns := ["int", "object"]) (by decide +kernel)
theorem nf_str {K : PySem.W.Frag} {C : Addr} : PySem.W.notFirst K C (.type "str") = true := notFirst_ty (ns := ["str", "object"]) (by decide +kernel)
theorem nf_list {K : PySem.W.Frag} {C : Addr} : PySem.W.notFirst K C (.type "list") = true := notFirst_ty (ns := ["list", "object"]) (by decide +kernel)
theorem nf_tuple {K : PySem.W.Frag} {C : Addr} : PySem.W.notFirst K C (.type "tuple") = true := notFirst_ty (ns := ["tuple", "object"]) (by decide +kernel)
section
variable {X : Cx} {CX : CXT} {pins : List (Addr × Obj)} {σ : L2.St} {H : Hp} {s : Shared} {C g : Addr} {n : Nat} {sp : Sp} {E : XK} {x : V} {u t : Value}
theorem ty_looks {M : Model} (I : Inv X pins σ H s) (rx : RelV x u) (ty : TyX X.K H x t) : PySem.W.Looks M s.heap (typeOf u) t := by
  obtain ⟨P, Z, hp, _⟩ := kit_of I rx ty
  exact Z.ty _ _ I.kIn hp
theorem ins_at {a dx : Addr} {fs : List (Str × V)} (I : Inv X pins σ H s) (h : H a = some (.ins C dx fs)) : ∃ ox od, PySem.W.InstAt s.heap a ox C od := by
  obtain ⟨mA, J, _⟩ := ins_get I.hok h
  obtain ⟨od, J, _⟩ := J.look
  exact ⟨_, _, J⟩
/-- x == y, x an instance of the class at C with its own __eq__ -/
def rEqO (K : PySem.W.Frag) (C : Addr) (sp : Sp) (E : XK) : R2 := fun x y H Q => ∃ a dx fs tb, x = .ref a ∧ H a = some (.ins C dx fs) ∧ TyX K H y tb ∧ PySem.W.notFirst K C tb = true ∧ sp [x, y] H Q E
theorem op_eqO (O : OwnQ X.K C g) (F : FnR X.prog X.w X.K X.mg X.base CX n g sp) (hr : Room n X.A) (hx : Passes CX X E) : OpR X (compareOp .Eq) (rEqO X.K C sp E) := by
  intro pins s σ H x y v u Q I rx ry h
  obtain ⟨a, dx, fs, tb, rfl, ha, ty, hn, q⟩ := h
  cases (show v = Value.ref a from rx)
  obtain ⟨ox, od, J⟩ := ins_at I ha
  obtain ⟨m, hF⟩ := I.fr
  show wpAny (model X.prog X.w) X.A (richCompare .Eq (.ref a) u) (EP X pins σ Q) X.xe s
  refine PySem.W.cmp_K (op := .Eq) (tb := tb) hr.units0 hF I.ok.mod.kin J (ty_looks I ry ty) hn O.eq O.fn ?_
  refine wpAny_mono (wpAny_call (run_fnR (us := [.ref a, u]) (vs := [.ref a, y]) F hr hx I (.cons rfl (.cons ry .nil)) q)) (fun w s' z => ?_) fun _ _ x => x
  obtain ⟨z', H', I', rz, qz⟩ := z
  exact SlX.cmpback rz ⟨z', H', I', rz, qz⟩
/-- x != y -/
def rNeO (K : PySem.W.Frag) (C : Addr) (sp : Sp) (E : XK) : R2 := fun x y H Q => ∃ a dx fs tb, x = .ref a ∧ H a = some (.ins C dx fs) ∧ TyX K H y tb ∧ PySem.W.notFirst K C tb = true ∧ sp [x, y] H (fun z H' => ∃ r, z = .bl r ∧ Q (.bl (!r)) H') E
theorem op_neO (O : OwnQ X.K C g) (F : FnR X.prog X.w X.K X.mg X.base CX n g sp) (hr : Room (n + 1) X.A) (hx : Passes CX X E) : OpR X (compareOp .NotEq) (rNeO X.K C sp E) := by
  intro pins s σ H x y v u Q I rx ry h
  obtain ⟨a, dx, fs, tb, rfl, ha, ty, hn, q⟩ := h
  cases (show v = Value.ref a from rx)
  obtain ⟨ox, od, J⟩ := ins_at I ha
  show wpAny (model X.prog X.w) X.A (richCompare .NotEq (.ref a) u) (EP X pins σ Q) X.xe s
  have hr1 : Room n X.A.in1 := Room.in1 hr
  refine rc_neO (C := C) (f := g) (tb := tb) (by have := hr.un; omega) I.kIn J O (ty_looks I ry ty) hn ?_
  refine wpAny_mono (wpAny_call (SlX.run_at (us := [.ref a, u]) (ws := [.ref a, y]) F hr1 I.env0.in1 hx I (.cons rfl (.cons ry .nil)) q)) (fun w s' z => ?_) fun _ _ x => x
  obtain ⟨z', H', I', rz, r, ez, qz⟩ := z
  subst ez
  cases (show w = Value.bool r from rz)
  exact ⟨r, rfl, .bl (!r), H', I', rfl, qz⟩
end
end Rs
/-! A built-in value == an instance with an own __eq__; such an instance in a tuple. -/
namespace Rs
open PySem PySem.Spec PyProof.Rows PySem.SeqAt L2 SeqRoads2 MeetsSeq MeetsSeq2 MeetsSeq3
open AutoSeq1 (wpAny_loadPart')
section
variable {prog : Program} {w : World} {A : Around} {E : Value → Shared → Prop} {s : Shared} {K : PySem.W.Frag} {x C f : Addr} {ox : Obj} {od : Option Obj}
theorem rc_eqR {T id : String} {u : Value} {Q : Value → Shared → Prop} (hu : A.units < cLine) (X : K.In s.heap) (I : PySem.W.InstAt s.heap x ox C od) (O : OwnQ K C f) (hT : s.TypeIs u T) (S : Slot T "__eq__" id)
    (hm : PySem.W.mroIn K C (.type T) = some false) (decl : wpAny (model prog w) A (call (.builtin id) [u, .ref x]) (fun v s' => v = .notImplemented ∧ s' = s) E s)
    (h : wpAny (model prog w) A (call (.ref f) [.ref x, u]) (PySem.W.CmpBack Q) E s) : wpAny (model prog w) A (richCompare .Eq u (.ref x)) Q E s := by
  have one : wpAny (model prog w) A (tryCompare u "__eq__" (.ref x)) (fun r s' => r = none ∧ s' = s) E s :=
    wpAny_tryCompare_declines hT S (wpAny_mono decl (fun v s' z => ⟨z.1, rfl, z.2⟩) fun _ _ e => e)
  have two : wpAny (model prog w) A (tryCompare (.ref x) "__eq__" u) (fun r s' => ∃ v, r = some v ∧ Q v s') E s := by
    unfold tryCompare
    refine wpAny_bind (PySem.W.ifBound_K X I O.eq O.fn (wpAny_mono h (fun v s' hv => ?_) fun _ _ e => e))
    cases v <;> first | exact hv.elim | exact wpAny_pure ⟨_, rfl, hv⟩
  simp only [richCompare, cmpInfo_Eq, hT.oneThing_none]
  refine wpAny_holding (wpAny_bind (wpAny_cRoomFor hu ?_))
  refine wpAny_bind (wpAny_typeOf hT ?_)
  refine wpAny_bind (I.type.here ?_)
  split
  · refine wpAny_bind ((PySem.W.looks_subIn X (t := .ref C) (base := .type T) hm).here ?_)
    simp only [Bool.false_eq_true, if_false, Bool.not_false, if_true]
    refine wpAny_bind (m := tryCompare u _ (.ref x)) (wpAny_mono one (fun r s1 z => ?_) fun _ _ e => e)
    obtain ⟨z1, z2⟩ := z
    subst z1
    subst z2
    refine wpAny_bind (m := tryCompare (.ref x) _ u) (wpAny_mono two (fun r s2 z => ?_) fun _ _ e => e)
    obtain ⟨v, rfl, hq⟩ := z
    exact wpAny_pure hq
  · rename_i q
    exact absurd (by simp) q
theorem str_eq_ins (a : Str) (t : Tok) (x C dx : Addr) : Meets (Builtin.«str.__eq__» ⟨[.str a t, .ref x], []⟩) (fun _ R s => s.heap.get? x = some (PySem.W.instObj C dx) ∧ R (.ok (.ret .notImplemented)) s) :=
  .of_wp fun prog w A R s h => by
    obtain ⟨hp, g, d, tk, os⟩ := s; obtain ⟨hl, h⟩ := h
    unfold PySem.W.instObj at hl
    wp_walk using wpAny_loadPart' hl
    exact ⟨_, rfl, h⟩
theorem wpAny_sub' {M : Model} {A : Around} {E : Value → Shared → Prop} {h : Heap} {g : Array GenState} {d : Drawn} {t : Nat} {os : OsState} {a b : Value} {r : Bool} {Q : Bool → Shared → Prop}
    (x : PySem.W.Looks M h (isSubtype a b) r) (hq : Q r ⟨h, g, d, t, os⟩) : wpAny M A (isSubtype a b) Q E ⟨h, g, d, t, os⟩ := PySem.W.Looks.here (s := ⟨h, g, d, t, os⟩) x hq
theorem tuple_eq_ins (l x C dx : Addr) (hm : PySem.W.mroIn K C (.type "tuple") = some false) :
    Meets (Builtin.«tuple.__eq__» ⟨[.ref l, .ref x], []⟩) (fun _ R s => K.In s.heap ∧ s.heap.get? x = some (PySem.W.instObj C dx) ∧ R (.ok (.ret .notImplemented)) s) :=
  .of_wp fun prog w A R s h => by
    obtain ⟨hp, g, d, tk, os⟩ := s; obtain ⟨X, hl, h⟩ := h
    unfold PySem.W.instObj at hl
    have L : PySem.W.Looks (model prog w) hp (isSubtype (.ref C) (.type "tuple")) false := PySem.W.looks_subIn X hm
    wp_walk using wpAny_loadPart' hl, wpAny_sub' L
    exact ⟨_, rfl, h⟩
theorem list_eq_ins (l x C dx : Addr) (hm : PySem.W.mroIn K C (.type "list") = some false) :
    Meets (Builtin.«list.__eq__» ⟨[.ref l, .ref x], []⟩) (fun _ R s => K.In s.heap ∧ s.heap.get? x = some (PySem.W.instObj C dx) ∧ R (.ok (.ret .notImplemented)) s) :=
  .of_wp fun prog w A R s h => by
    obtain ⟨hp, g, d, tk, os⟩ := s; obtain ⟨X, hl, h⟩ := h
    unfold PySem.W.instObj at hl
    have L : PySem.W.Looks (model prog w) hp (isSubtype (.ref C) (.type "list")) false := PySem.W.looks_subIn X hm
    wp_walk using wpAny_loadPart' hl, wpAny_sub' L
    exact ⟨_, rfl, h⟩
theorem int_eq_ins (i : Int) (t : Tok) (x C dx : Addr) : Meets (Builtin.«int.__eq__» ⟨[.int i t, .ref x], []⟩) (fun _ R s => s.heap.get? x = some (PySem.W.instObj C dx) ∧ R (.ok (.ret .notImplemented)) s) :=
  .of_wp fun prog w A R s h => by
    obtain ⟨hp, g, d, tk, os⟩ := s; obtain ⟨hl, h⟩ := h
    unfold PySem.W.instObj at hl
    wp_walk using wpAny_loadPart' hl
    exact ⟨_, rfl, h⟩
/-- u in a builtin's loop against an instance -/
theorem eqBool_ins {u : Value} {Q : Bool → Shared → Prop} (hne : (u == Value.ref x) = false) (h : wpAny (model prog w) A (richCompare .Eq u (.ref x)) (fun v s' => ∃ r, v = .bool r ∧ Q r s') E s) : wpAny (model prog w) A (eqBool u (.ref x)) Q E s := by
  unfold eqBool
  refine wpAny_holding ?_
  refine wpAny_ite_split (fun hab => by rw [hne] at hab; cases hab) (fun _ => ?_)
  cases u <;> (
    refine wpAny_bind (wpAny_mono h (fun v s' hv => ?_) fun _ _ x => x)
    obtain ⟨r, rfl, q⟩ := hv
    exact wpAny_truthy_bool q)
theorem tuple_inG {R : Result → Shared → Prop} (l : Addr) (items : Array Value) (n : Nat) (dd : Option Addr) (sl : Array (Option Value)) (y : Value) (I : Shared → Prop)
    (turn : ∀ z, z ∈ items → ∀ s, I s → wpAny (model prog w) A.in1 (eqBool z y) (fun r s' => r = false ∧ I s') (fun e s' => R (.error e) s') s)
    (fin : ∀ s, I s → R (.ok (.ret (.bool false))) s) (hl : s.heap.get? l = some { cls := .type "tuple", dict := dd, data := .seq items n, slots := sl }) (h : I s) :
    wpAny (model prog w) A.in1 (Builtin.«tuple.__contains__» ⟨[.ref l, y], []⟩) (GQ.FinOf prog w A R) (fun e s' => R (.error e) s') s := by
  obtain ⟨hp, g, d, tk, os⟩ := s
  wp_walk using wpAny_loadPart' hl, wpAny_forIn_array _ (fun rest b s' => b.1 = none ∧ I s' ∧ (∀ z, z ∈ rest → z ∈ items)) _

  case turn =>
    rintro z rest b s' ⟨hb, hI, hmem⟩
    refine wpAny_bind (wpAny_mono (turn z (hmem z (List.mem_cons_self ..)) s' hI) (fun r s2 q => ?_) fun _ _ x => x)
    obtain ⟨rfl, q2⟩ := q
    wp_walk
    exact ⟨rfl, q2, fun z hz => hmem z (List.mem_cons_of_mem _ hz)⟩
  case fin =>
    rintro ⟨b1, b2⟩ s' ⟨hb, hI, hmem⟩
    simp only at hb
    subst hb
    have hR := fin s' hI
    wp_walk
    exact hR
  case h =>
    exact ⟨rfl, h, fun z hz => by simpa using hz⟩
theorem in_tupG {l : Addr} {items : Array Value} {y : Value} {Q : Value → Shared → Prop} (I : Shared → Prop) (hl : s.heap.IsTuple l items)
    (turn : ∀ z, z ∈ items → ∀ s, I s → wpAny (model prog w) A.in1 (eqBool z y) (fun r s' => r = false ∧ I s') E s) (fin : ∀ s, I s → Q (.bool false) s) (h : I s) :
    wpAny (model prog w) A (compareOp .In y (.ref l)) Q E s := by
  obtain ⟨⟨cls, dd, data, sl⟩, ho, hc, n, hd⟩ := id hl
  simp only at hc hd
  subst hc hd
  show wpAny _ A (do return .bool (← contains (.ref l) y)) Q E s
  refine wpAny_bind (wpAny_contains_slot ⟨_, ho, rfl⟩ F.slot_tuple_contains (wpAny_mono (GQ.call_here F.slot_tuple_contains ⟨_, ho, rfl⟩ F.entry_tuple_contains (F.args_tuple_contains_2 _ _)
    (tuple_inG (R := wants (fun v s' => ∃ b, v = .bool b ∧ Q (.bool b) s') E) l items n dd sl y I turn (fun s' q => ⟨_, rfl, fin s' q⟩) ho h)) (fun v s' hv => ?_) fun _ _ e => e))
  obtain ⟨b, rfl, hq⟩ := hv
  exact wpAny_truthy_bool (wpAny_pure hq)
end
/-- the class at C is no subclass of these -/
structure OwnN (K : PySem.W.Frag) (C : Addr) : Prop where
  no : PySem.W.mroIn K C (.type "NoneType") = some false
  st : PySem.W.mroIn K C (.type "str") = some false
  tu : PySem.W.mroIn K C (.type "tuple") = some false
  li : PySem.W.mroIn K C (.type "list") = some false
  it : PySem.W.mroIn K C (.type "int") = some false
theorem Vals.of_mem : ∀ {xs : List V} {us : List Value}, Vals xs us → ∀ {u : Value}, u ∈ us → ∃ x, x ∈ xs ∧ RelV x u
  | _, _, .nil, _, h => by cases h
  | _, _, .cons r t, u, h => by
    rcases List.mem_cons.mp h with e | h
    · subst e
      exact ⟨_, List.mem_cons_self, r⟩
    · obtain ⟨x, hx, k⟩ := Vals.of_mem t h
      exact ⟨x, List.mem_cons_of_mem _ hx, k⟩
section
variable {X : Cx} {CX : CXT} {pins : List (Addr × Obj)} {σ : L2.St} {H : Hp} {s : Shared} {C g : Addr} {n : Nat} {sp : Sp} {E : XK}
theorem ins_obj {a dx : Addr} {fs : List (Str × V)} (I : Inv X pins σ H s) (h : H a = some (.ins C dx fs)) : ∃ od, PySem.W.InstAt s.heap a (PySem.W.instObj C dx) C od := by
  obtain ⟨mA, J, _⟩ := ins_get I.hok h
  obtain ⟨od, J, _⟩ := J.look
  exact ⟨_, J⟩
/-- kinds of values that an instance is compared with from the left -/
def OthV (K : PySem.W.Frag) (H : Hp) (z : V) : Prop := z = .non ∨ (∃ i, z = .str i) ∨ (∃ i, z = .int i) ∨ ∃ p ys, z = .ref p ∧ SqT K H p ys
def falseO (sp : Sp) (E : XK) (a : Addr) (z : V) (H : Hp) : Prop := sp [.ref a, z] H (fun v H' => v = .bl false ∧ H' = H) E
theorem rc_oth {A : Around} {a dx : Addr} {fs : List (Str × V)} {z : V} {u : Value} (O : OwnQ X.K C g) (N : OwnN X.K C) (FG : FnR X.prog X.w X.K X.mg X.base CX n g sp) (hr : Room n A) (e0 : Env0 X.prog X.w X.K X.mg X.base A X.stack s H) (hx : Passes CX X E)
    (I : Inv X pins σ H s) (ha : H a = some (.ins C dx fs)) (rz : RelV z u) (oz : OthV X.K H z) (q : falseO sp E a z H) :
    wpAny (model X.prog X.w) A (eqBool u (.ref a)) (fun r s' => r = false ∧ Inv X pins σ H s') X.xe s := by
  obtain ⟨od, J⟩ := ins_obj I ha
  have run : wpAny (model X.prog X.w) A (call (.ref g) [.ref a, u]) (PySem.W.CmpBack (fun v s' => ∃ r, v = .bool r ∧ r = false ∧ Inv X pins σ H s')) X.xe s := by
    refine wpAny_mono (wpAny_call (SlX.run_at (us := [.ref a, u]) (ws := [.ref a, z]) FG hr e0 hx I (.cons rfl (.cons rz .nil)) q)) (fun w s' y => ?_) fun _ _ x => x
    obtain ⟨z', H', I', ry, e1, e2⟩ := y
    subst e1
    subst e2
    cases (show w = Value.bool false from ry)
    exact ⟨false, rfl, rfl, I'⟩
  rcases oz with rfl | ⟨i, rfl⟩ | ⟨i, rfl⟩ | ⟨p, ys, rfl, hp⟩
  · cases (show u = Value.none from rz)
    exact eqBool_ins rfl (rc_eqR hr.units0 I.kIn J O (show s.TypeIs .none "NoneType" from rfl) F.slot_NoneType_eq N.no (call_gives F.slot_NoneType_eq rfl F.entry_NoneType_eq (F.args_NoneType_eq_2 _ _) (NoneType___eq___none_ref_0 a) ⟨rfl, rfl⟩) run)
  · obtain ⟨t, rfl⟩ := (show ∃ t, u = Value.str i t from rz)
    exact eqBool_ins rfl (rc_eqR hr.units0 I.kIn J O (show s.TypeIs (.str i t) "str" from rfl) F.slot_str_eq N.st (call_meets F.slot_str_eq rfl F.entry_str_eq (F.args_str_eq_2 _ _) (str_eq_ins i t a C dx) ⟨J.at_, rfl, rfl⟩) run)
  · obtain ⟨t, rfl⟩ := (show ∃ t, u = Value.int i t from rz)
    exact eqBool_ins rfl (rc_eqR hr.units0 I.kIn J O (show s.TypeIs (.int i t) "int" from rfl) F.slot_int_eq N.it (call_meets F.slot_int_eq rfl F.entry_int_eq (F.args_int_eq_2 _ _) (int_eq_ins i t a C dx) ⟨J.at_, rfl, rfl⟩) run)
  · cases (show u = Value.ref p from rz)
    obtain ⟨its, rv, ⟨o, ho, hc, _⟩, _⟩ := I.tuple hp
    have hne : (Value.ref p == Value.ref a) = false := by
      have : p ≠ a := by
        rintro rfl
        have e := J.at_
        rw [ho] at e
        cases e
        cases hc
      simp [this]
    exact eqBool_ins hne (rc_eqR hr.units0 I.kIn J O (show s.TypeIs (.ref p) "tuple" from ⟨_, ho, hc⟩) F.slot_tuple_eq N.tu (call_meets F.slot_tuple_eq ⟨_, ho, hc⟩ F.entry_tuple_eq (F.args_tuple_eq_2 _ _) (tuple_eq_ins p a C dx N.tu) ⟨I.kIn, J.at_, rfl, rfl⟩) run)
/-- x in a tuple of other things -/
def rInO (K : PySem.W.Frag) (C : Addr) (sp : Sp) (E : XK) : R2 := fun x y H Q => ∃ a dx fs t xs, x = .ref a ∧ H a = some (.ins C dx fs) ∧ y = .ref t ∧ SqT K H t xs ∧ (∀ z ∈ xs, OthV K H z ∧ falseO sp E a z H) ∧ Q (.bl false) H
theorem op_inO (O : OwnQ X.K C g) (N : OwnN X.K C) (F : FnR X.prog X.w X.K X.mg X.base CX n g sp) (hr : Room (n + 2) X.A) (hx : Passes CX X E) : OpR X (compareOp .In) (rInO X.K C sp E) := by
  intro pins s σ H x y v u Q I rx ry h
  obtain ⟨a, dx, fs, t, xs, rfl, ha, rfl, ht, hz, q⟩ := h
  cases (show v = Value.ref a from rx)
  cases (show u = Value.ref t from ry)
  obtain ⟨its, rv, e, _⟩ := I.tuple ht
  have hr1 : Room n X.A.in1 := Room.in1 (hr.mono (by omega))
  refine in_tupG (fun s' => Inv X pins σ H s') e (fun z hm s' I' => ?_) (fun s' I' => ⟨.bl false, H, I', rfl, q⟩) I
  obtain ⟨zz, hzz, rz⟩ := Vals.of_mem rv (by simpa using hm)
  exact rc_oth O N F hr1 I'.env0.in1 hx I' ha rz (hz zz hzz).1 (hz zz hzz).2
end
end Rs
/-! What a class with its own __eq__ is to isinstance; any value in a tuple of texts. -/
namespace Rs
open PySem PySem.Spec PyProof.Rows L2
theorem fnR {P : Program} {w : World} {K : PySem.W.Frag} {mg : Str → Option Value} {base : Heap} {CX : CXT} {k : Nat} {f : Addr} {fd : FuncData} {ps : List Str} {sp : Sp} (F : FnOk P w K mg base CX k f fd ps sp) (hb : Binds K fd ps []) : FnR P w K mg base CX k f sp :=
  (F.raw hb .nil).imp fun vs H Q E h => by
    show sp (vs ++ []) H Q E
    rw [List.append_nil]
    exact h
structure OwnI (K : PySem.W.Frag) (C : Addr) : Prop where
  cl : (PySem.W.clsIn K C).isSome = true
  tp : PySem.W.typeIn K (.ref C) = some (.type "type")
  ca : PySem.W.findIn K (.ref C) "__class__" = some (some (.builtin "object.__class__"))
  sp : PySem.W.specialIn K (.builtin "object.__class__") "__get__" = some (some (.builtin "getset_descriptor.__get__"))
  tk : PySem.W.takesIn K (.builtin "object.__class__") = some true
  mo : PySem.W.mroIn K C (.type "object") = some true
theorem OwnI.ty {K : PySem.W.Frag} {C a dx : Addr} {fs : List (Str × V)} {H : Hp} (h : OwnI K C) (c : Cls K C) (e : H a = some (.ins C dx fs)) : TyX K H (.ref a) (.ref C) := .base (.ins e c h.ca h.sp h.tk h.mo)
theorem kit_self {K : PySem.W.Frag} {C : Addr} : PySem.W.kitOne K (.ref C) (.ref C) = some true := by simp [PySem.W.kitOne]
theorem OwnI.no {K : PySem.W.Frag} {C : Addr} {T : String} {ns : List String} (h : OwnI K C) (e : fastBuiltinMro T = some (ns.map Value.type)) : PySem.W.kitOne K (.type T) (.ref C) = some false := by
  have h1 : PySem.W.subIn K (.type T) (.ref C) = some false := by
    show (fastBuiltinMro T).map (·.contains (.ref C)) = some false
    rw [e]
    simp
  unfold PySem.W.kitOne PySem.W.kitCls
  simp [h.cl, h.tp, h1]
/-- the built-in kinds that stand beside own instances -/
inductive BT : String → Prop
  | non : BT "NoneType"
  | bl : BT "bool"
  | int : BT "int"
  | str : BT "str"
  | lst : BT "list"
  | tup : BT "tuple"
theorem BT.nf {K : PySem.W.Frag} {C : Addr} {T : String} (h : BT T) : PySem.W.notFirst K C (.type T) = true := by
  cases h
  · exact nf_none
  · exact nf_bool
  · exact nf_int
  · exact nf_str
  · exact nf_list
  · exact nf_tuple
theorem OwnI.bt {K : PySem.W.Frag} {C : Addr} {T : String} (h : OwnI K C) (b : BT T) : PySem.W.kitOne K (.type T) (.ref C) = some false := by
  cases b
  · exact h.no (ns := ["NoneType", "object"]) (by decide +kernel)
  · exact h.no (ns := ["bool", "int", "object"]) (by decide +kernel)
  · exact h.no (ns := ["int", "object"]) (by decide +kernel)
  · exact h.no (ns := ["str", "object"]) (by decide +kernel)
  · exact h.no (ns := ["list", "object"]) (by decide +kernel)
  · exact h.no (ns := ["tuple", "object"]) (by decide +kernel)
theorem Sh.bt {K : PySem.W.Frag} {b : Addr} {H : Hp} {v : V} (h : Sh b H v) : ∃ T, TyX K H v (.type T) ∧ BT T := by
  cases v with
  | non => exact ⟨_, .base .non, .non⟩
  | bl x => exact ⟨_, .base (.bl x), .bl⟩
  | int x => exact ⟨_, .base (.int x), .int⟩
  | str x => exact ⟨_, .base (.str x), .str⟩
  | ref a =>
    obtain ⟨ne, ⟨xs, e⟩ | ⟨xs, e⟩⟩ := h
    · exact ⟨_, .base (.lst e), .lst⟩
    · exact ⟨_, .base (.tup e), .tup⟩
  | byt _ => exact h.elim
  | flt _ => exact h.elim
  | ty _ => exact h.elim
/-- whether a value is one of some texts -/
def isOne (ys : List Str) : V → Bool
  | .str x => ys.any (· == x)
  | _ => false
def eqText (v : V) : Value → Bool
  | .str c _ => (match v with
    | .str x => c == x
    | _ => false)
  | _ => false
theorem any_text {v : V} : ∀ {ys : List Str} {us : List Value}, Vals (ys.map V.str) us → us.any (eqText v) = isOne ys v
  | [], _, .nil => by cases v <;> rfl
  | y :: ys, _, .cons r t => by
    obtain ⟨k, rfl⟩ := r
    have ih := any_text (v := v) t
    rw [List.any_cons, ih]
    cases v <;> simp [eqText, isOne]
section
variable {X : Cx} {pins : List (Addr × Obj)} {σ : L2.St} {H : Hp} {s : Shared}
theorem text_eqAt {A : Around} {b : Addr} {v : V} {u : Value} (hu : A.units < cLine) (I : Inv X pins σ H s) (h : Sh b H v) (rv : RelV v u) (y : Str) (t : Tok) : SeqAt.EqAt A s (.str y t) u (eqText v (.str y t)) := by
  cases v with
  | non => cases (show u = Value.none from rv); exact SeqAt.EqAt.str_none y t
  | bl x => cases (show u = Value.bool x from rv); exact SeqAt.EqAt.str_bool y t x
  | int i => obtain ⟨k, rfl⟩ := (show ∃ k, u = Value.int i k from rv); exact SeqAt.EqAt.str_int y t i k
  | str x => obtain ⟨k, rfl⟩ := (show ∃ k, u = Value.str x k from rv); exact SeqAt.EqAt.str_str y t x k
  | ref a =>
    cases (show u = Value.ref a from rv)
    obtain ⟨ne, ⟨xs, e⟩ | ⟨xs, e⟩⟩ := h
    · obtain ⟨its, r, pl, _⟩ := I.list (SqL.of e)
      exact SeqAt.EqAt.str_list y t pl.isList hu
    · obtain ⟨its, r, pl, _⟩ := I.tuple (SqT.of e)
      exact SeqAt.EqAt.str_tuple y t pl hu
  | byt _ => exact h.elim
  | flt _ => exact h.elim
  | ty _ => exact h.elim
/-- x (not) in a tuple of texts -/
def rInSh (K : PySem.W.Frag) (neg : Bool) : R2 := fun x y H Q => ∃ b p ys, y = .ref p ∧ SqT K H p (ys.map V.str) ∧ Sh b H x ∧ Q (.bl (if neg then !isOne ys x else isOne ys x)) H
theorem mem_text {b : Addr} {A : Around} {v : V} {u : Value} (hu : A.units < cLine) (I : Inv X pins σ H s) (h : Sh b H v) (rv : RelV v u) : ∀ {ys : List Str} {us : List Value}, Vals (ys.map V.str) us → ∀ z ∈ us, SeqAt.EqAt A s z u (eqText v z)
  | [], _, .nil, _, hz => by cases hz
  | y :: ys, _, .cons r t, z, hz => by
    obtain ⟨k, rfl⟩ := r
    rcases List.mem_cons.mp hz with e | hz
    · subst e
      exact text_eqAt hu I h rv y k
    · exact mem_text hu I h rv t z hz
theorem op_inSh (hu : X.A.units + 64 < cLine) : OpR X (compareOp .In) (rInSh X.K false) := by
  intro pins s σ H x y v u Q I rx ry h
  obtain ⟨b, p, ys, rfl, hq, hs, q⟩ := h
  cases ry
  obtain ⟨its, rv, pl, _⟩ := I.tuple hq
  have hu1 : X.A.in1.units < cLine := by show X.A.units + 1 < cLine; omega
  refine SeqAt.in_tupleAt (eqText x) pl (fun z hz => mem_text hu1 I hs rx rv z (by simpa using hz)) ⟨.bl _, H, I, rfl, ?_⟩
  rw [show its.toArray.any (eqText x) = its.any (eqText x) by simp, any_text rv]
  exact q
theorem op_notInSh (hu : X.A.units + 64 < cLine) : OpR X (compareOp .NotIn) (rInSh X.K true) := by
  intro pins s σ H x y v u Q I rx ry h
  obtain ⟨b, p, ys, rfl, hq, hs, q⟩ := h
  cases ry
  obtain ⟨its, rv, pl, _⟩ := I.tuple hq
  have hu1 : X.A.in1.units < cLine := by show X.A.units + 1 < cLine; omega
  refine SeqAt.notIn_tupleAt (eqText x) pl (fun z hz => mem_text hu1 I hs rx rv z (by simpa using hz)) ⟨.bl _, H, I, rfl, ?_⟩
  rw [show its.toArray.any (eqText x) = its.any (eqText x) by simp, any_text rv]
  exact q
end
end Rs
namespace K08
open PySem PySem.Spec PyProof.Rows L2 Rs
local macro_rules | `(tactic| walk_at "om") => `(tactic| first | omega | (dsimp only; omega))
local macro_rules | `(tactic| walk_at "side") => `(tactic| first | omega | (dsimp only; omega) | decide | (unfold CMul; omega) | (unfold CDiv; omega) | (unfold CPow; omega) | exact wide_div (b := 64) (by omega) (by omega) (by decide) (by decide))
local macro_rules | `(tactic| walk_at "hp") => `(tactic| first | assumption | exact upd_same)
local macro_rules | `(tactic| walk_at "sq") => `(tactic| first | assumption | exact SqL.of (by assumption) | exact SqL.of upd_same)
local macro_rules | `(tactic| walk_at "st") => `(tactic| first
  | refine ⟨_, rfl, ?_⟩
  | (refine ⟨_, _, rfl, rfl, And.intro ?side ?_⟩; (case side => walk_at "side"))
  | refine ⟨_, _, rfl, rfl, ?_⟩
  | (refine' ⟨_, _, _, _, rfl, rfl, SqL.of ?hp, ?atx, ?_⟩; (case hp => walk_at "hp"); (case atx => exact rfl))
  | (refine' ⟨_, _, _, _, rfl, rfl, ?hp, ?atx, ?_⟩; (case hp => walk_at "hp"); (case atx => exact rfl))
  | (refine' ⟨_, _, rfl, Or.inl ?sq, ?_⟩; (case sq => walk_at "sq"))
  | refine Or.inl ⟨_, rfl, ?_⟩
  | refine Or.inr ⟨_, rfl, ?_⟩)
local macro_rules | `(tactic| walk_at "evd") => `(tactic| first
  | exact evd_int
  | exact evd_str
  | exact evd_non
  | exact evd_bl
  | exact evd_nil
  | (refine evd_cons ?_ (fun _ => ?_) <;> walk_at "evd")
  | (refine evd_tup ?_ (Nat.le_of_ble_eq_true rfl); walk_at "evd"))

def topS (i : Nat) : Stmt := PySem.Challenge.pw_ringsums_k08_plans_refused.main.body.getD i (.Pass ⟨0, 0, 0, 0⟩)
abbrev s_InvalidBlock___init__ : Stmt := inClass (topS 5) 0
theorem sc_InvalidBlock___init__ : FnScope ["self", "word"] ["self", "word"] (defScope s_InvalidBlock___init__) := ⟨rfl, rfl, rfl, by decide +kernel, rfl, by decide +kernel, by decide +kernel⟩
abbrev s_Form___init__ : Stmt := inClass (topS 15) 0
theorem sc_Form___init__ : FnScope ["self", "times", "plus", "by"] ["self", "times", "plus", "by"] (defScope s_Form___init__) := ⟨rfl, rfl, rfl, by decide +kernel, rfl, by decide +kernel, by decide +kernel⟩
abbrev s_Form___eq__ : Stmt := inClass (topS 15) 2
theorem sc_Form___eq__ : FnScope ["self", "other"] ["self", "other"] (defScope s_Form___eq__) := ⟨rfl, rfl, rfl, by decide +kernel, rfl, by decide +kernel, by decide +kernel⟩
abbrev s_Lane___init__ : Stmt := inClass (topS 25) 0
theorem sc_Lane___init__ : FnScope ["self", "way", "sign", "shift", "deed"] ["self", "way", "sign", "shift", "deed"] (defScope s_Lane___init__) := ⟨rfl, rfl, rfl, by decide +kernel, rfl, by decide +kernel, by decide +kernel⟩
abbrev s_Lane___eq__ : Stmt := inClass (topS 25) 2
theorem sc_Lane___eq__ : FnScope ["self", "other"] ["self", "other"] (defScope s_Lane___eq__) := ⟨rfl, rfl, rfl, by decide +kernel, rfl, by decide +kernel, by decide +kernel⟩
abbrev s_Block___init__ : Stmt := inClass (topS 26) 0
theorem sc_Block___init__ : FnScope ["self", "rounds", "lanes", "lane"] ["self", "rounds", "lanes"] (defScope s_Block___init__) := ⟨rfl, rfl, rfl, by decide +kernel, rfl, by decide +kernel, by decide +kernel⟩
abbrev s_Block___eq__ : Stmt := inClass (topS 26) 1
theorem sc_Block___eq__ : FnScope ["self", "other"] ["self", "other"] (defScope s_Block___eq__) := ⟨rfl, rfl, rfl, by decide +kernel, rfl, by decide +kernel, by decide +kernel⟩
abbrev s_Plan___init__ : Stmt := inClass (topS 27) 0
theorem sc_Plan___init__ : FnScope ["self", "blocks", "block"] ["self", "blocks"] (defScope s_Plan___init__) := ⟨rfl, rfl, rfl, by decide +kernel, rfl, by decide +kernel, by decide +kernel⟩
abbrev s_Plan___eq__ : Stmt := inClass (topS 27) 8
theorem sc_Plan___eq__ : FnScope ["self", "other"] ["self", "other"] (defScope s_Plan___eq__) := ⟨rfl, rfl, rfl, by decide +kernel, rfl, by decide +kernel, by decide +kernel⟩
abbrev s_is_whole : Stmt := topS 10
theorem sc_is_whole : FnScope ["value"] ["value"] (defScope s_is_whole) := ⟨rfl, rfl, rfl, by decide +kernel, rfl, by decide +kernel, by decide +kernel⟩
abbrev s_is_sequence : Stmt := topS 12
theorem sc_is_sequence : FnScope ["value"] ["value"] (defScope s_is_sequence) := ⟨rfl, rfl, rfl, by decide +kernel, rfl, by decide +kernel, by decide +kernel⟩
abbrev s__law_box : Stmt := topS 32
theorem sc__law_box : FnScope ["_law_script", "_law_k", "_law_cell", "_law_seed", "_law_wide"] ["_law_script", "_law_k"] (defScope s__law_box) := ⟨rfl, rfl, rfl, by decide +kernel, rfl, by decide +kernel, by decide +kernel⟩
abbrev s__law_take : Stmt := topS 33
theorem sc__law_take : FnScope ["_law_box_here", "_law_many", "_law_digit", "_law_near"] ["_law_box_here", "_law_many"] (defScope s__law_take) := ⟨rfl, rfl, rfl, by decide +kernel, rfl, by decide +kernel, by decide +kernel⟩
abbrev s__law_pick : Stmt := topS 34
theorem sc__law_pick : FnScope ["_law_box_here", "_law_some"] ["_law_box_here", "_law_some"] (defScope s__law_pick) := ⟨rfl, rfl, rfl, by decide +kernel, rfl, by decide +kernel, by decide +kernel⟩
abbrev s__law_form : Stmt := topS 35
theorem sc__law_form : FnScope ["_law_box_here", "_law_far", "_law_times", "_law_plus"] ["_law_box_here", "_law_far"] (defScope s__law_form) := ⟨rfl, rfl, rfl, by decide +kernel, rfl, by decide +kernel, by decide +kernel⟩
abbrev s__law_lane : Stmt := topS 36
theorem sc__law_lane : FnScope ["_law_box_here", "_law_far", "_law_way", "_law_sign"] ["_law_box_here", "_law_far"] (defScope s__law_lane) := ⟨rfl, rfl, rfl, by decide +kernel, rfl, by decide +kernel, by decide +kernel⟩
abbrev s__law_block : Stmt := topS 37
theorem sc__law_block : FnScope ["_law_box_here", "_law_lanes", "_law_far", "_law_rounds", "_law_turn"] ["_law_box_here", "_law_lanes", "_law_far"] (defScope s__law_block) := ⟨rfl, rfl, rfl, by decide +kernel, rfl, by decide +kernel, by decide +kernel⟩
abbrev s__law_known_plan : Stmt := topS 38
theorem sc__law_known_plan : FnScope ["_law_box_here", "_law_once", "_law_half", "_law_down"] ["_law_box_here"] (defScope s__law_known_plan) := ⟨rfl, rfl, rfl, by decide +kernel, rfl, by decide +kernel, by decide +kernel⟩
abbrev s__law_plan : Stmt := topS 39
theorem sc__law_plan : FnScope ["_law_box_here", "_law_blocks", "_law_lanes", "_law_far", "_law_found", "_law_rounds", "_law_some", "_law_at", "_law_form_here", "_law_times", "_law_plus", "_law_by", "_law_turn"] ["_law_box_here", "_law_blocks", "_law_lanes", "_law_far"] (defScope s__law_plan) := ⟨rfl, rfl, rfl, by decide +kernel, rfl, by decide +kernel, by decide +kernel⟩
abbrev s__law_lane_of : Stmt := topS 40
theorem sc__law_lane_of : FnScope ["_law_lane_here"] ["_law_lane_here"] (defScope s__law_lane_of) := ⟨rfl, rfl, rfl, by decide +kernel, rfl, by decide +kernel, by decide +kernel⟩
abbrev s__law_plan_of : Stmt := topS 41
theorem sc__law_plan_of : FnScope ["_law_plan_here", "_law_found", "_law_rounds", "_law_lanes", "_law_lane_here"] ["_law_plan_here"] (defScope s__law_plan_of) := ⟨rfl, rfl, rfl, by decide +kernel, rfl, by decide +kernel, by decide +kernel⟩
abbrev s__law_any : Stmt := topS 42
theorem sc__law_any : FnScope ["_law_box_here", "_law_deep", "_law_form_here", "_law_some", "_law_k", "_law_words", "_law_plain"] ["_law_box_here", "_law_deep"] (defScope s__law_any) := ⟨rfl, rfl, rfl, by decide +kernel, rfl, by decide +kernel, by decide +kernel⟩
abbrev s__law_is_refused : Stmt := topS 43
theorem sc__law_is_refused : FnScope ["_law_value", "_law_found", "e"] ["_law_value"] (defScope s__law_is_refused) := ⟨rfl, rfl, rfl, by decide +kernel, rfl, by decide +kernel, by decide +kernel⟩
abbrev s_law : Stmt := topS 44
theorem sc_law : FnScope ["_law_script", "_law_k", "_law_box_here", "_law_turn", "_law_made", "_law_some", "_law_odd", "_law_at", "_law_bent", "_law_value", "_law_is_good"] ["_law_script"] (defScope s_law) := ⟨rfl, rfl, rfl, by decide +kernel, rfl, by decide +kernel, by decide +kernel⟩
/-- what the top has written -/
structure Txt (K : PySem.W.Frag) (mg : Str → Option Value) where
  c_RingError : Addr
  m_RingError : mg "RingError" = some (.ref c_RingError)
  c_InvalidBlock : Addr
  m_InvalidBlock : mg "InvalidBlock" = some (.ref c_InvalidBlock)
  a_InvalidBlock___init__ : Addr
  d_InvalidBlock___init__ : FuncData
  F_InvalidBlock___init__ : Fun K "__init__" "InvalidBlock.__init__" s_InvalidBlock___init__ a_InvalidBlock___init__ d_InvalidBlock___init__
  b_InvalidBlock___init__ : Binds K d_InvalidBlock___init__ ["self", "word"] []
  k_InvalidBlock___init__ : PySem.W.keepIn K (.ref a_InvalidBlock___init__) = true
  x_InvalidBlock : OexC K c_InvalidBlock
  X_InvalidBlock : ExX K c_InvalidBlock
  f_InvalidBlock : XfC K c_InvalidBlock
  n_InvalidBlock : PySem.W.findIn K (.ref c_InvalidBlock) "word" = some none
  i_InvalidBlock : PySem.W.findIn K (.ref c_InvalidBlock) "__init__" = some (some (.ref a_InvalidBlock___init__))
  t_InvalidBlock : PySem.W.typeIn K (.ref a_InvalidBlock___init__) = some (.type "function")
  e_InvalidBlock : PySem.W.exmOne K (.ref c_InvalidBlock) (.ref c_InvalidBlock) = some true
  c_InvalidPlan : Addr
  m_InvalidPlan : mg "InvalidPlan" = some (.ref c_InvalidPlan)
  q_InvalidPlan : PySem.W.excIn K c_InvalidPlan [.type "ValueError", .type "Exception", .type "BaseException", .type "object"] "ValueError.__new__" = true
  k_InvalidPlan : PySem.W.keepIn K (.ref c_InvalidPlan) = true
  r1_InvalidPlan : PySem.W.subIn K (.ref c_InvalidPlan) (.type "BaseException") = some true
  r2_InvalidPlan : PySem.W.typeIn K (.ref c_InvalidPlan) = some (.type "type")
  E_InvalidPlan : ExcC K c_InvalidPlan
  e_InvalidPlan : PySem.W.exmOne K (.ref c_InvalidPlan) (.ref c_InvalidPlan) = some true
  c_Form : Addr
  m_Form : mg "Form" = some (.ref c_Form)
  C_Form : Cls K c_Form
  n_Form_times : NoAttr K c_Form "times"
  n_Form_plus : NoAttr K c_Form "plus"
  n_Form_by : NoAttr K c_Form "by"
  I_Form : OwnI K c_Form
  N_Form : OwnN K c_Form
  a_Form___init__ : Addr
  d_Form___init__ : FuncData
  F_Form___init__ : FunD K "__init__" "Form.__init__" (defArgs s_Form___init__) (defBody s_Form___init__) (defScope s_Form___init__) [(.int 0), (.int 0), (.int 1)] [] a_Form___init__ d_Form___init__
  b_Form___init__ : Binds K d_Form___init__ ["self", "times", "plus", "by"] []
  k_Form___init__ : PySem.W.keepIn K (.ref a_Form___init__) = true
  M_Form : Mk K c_Form a_Form___init__
  a_Form___eq__ : Addr
  d_Form___eq__ : FuncData
  F_Form___eq__ : Fun K "__eq__" "Form.__eq__" s_Form___eq__ a_Form___eq__ d_Form___eq__
  b_Form___eq__ : Binds K d_Form___eq__ ["self", "other"] []
  k_Form___eq__ : PySem.W.keepIn K (.ref a_Form___eq__) = true
  O_Form : OwnQ K c_Form a_Form___eq__
  c_Lane : Addr
  m_Lane : mg "Lane" = some (.ref c_Lane)
  C_Lane : Cls K c_Lane
  n_Lane_way : NoAttr K c_Lane "way"
  n_Lane_sign : NoAttr K c_Lane "sign"
  n_Lane_shift : NoAttr K c_Lane "shift"
  n_Lane_deed : NoAttr K c_Lane "deed"
  I_Lane : OwnI K c_Lane
  N_Lane : OwnN K c_Lane
  a_Lane___init__ : Addr
  d_Lane___init__ : FuncData
  F_Lane___init__ : Fun K "__init__" "Lane.__init__" s_Lane___init__ a_Lane___init__ d_Lane___init__
  b_Lane___init__ : Binds K d_Lane___init__ ["self", "way", "sign", "shift", "deed"] []
  k_Lane___init__ : PySem.W.keepIn K (.ref a_Lane___init__) = true
  M_Lane : Mk K c_Lane a_Lane___init__
  a_Lane___eq__ : Addr
  d_Lane___eq__ : FuncData
  F_Lane___eq__ : Fun K "__eq__" "Lane.__eq__" s_Lane___eq__ a_Lane___eq__ d_Lane___eq__
  b_Lane___eq__ : Binds K d_Lane___eq__ ["self", "other"] []
  k_Lane___eq__ : PySem.W.keepIn K (.ref a_Lane___eq__) = true
  O_Lane : OwnQ K c_Lane a_Lane___eq__
  c_Block : Addr
  m_Block : mg "Block" = some (.ref c_Block)
  C_Block : Cls K c_Block
  n_Block_rounds : NoAttr K c_Block "rounds"
  n_Block_lanes : NoAttr K c_Block "lanes"
  I_Block : OwnI K c_Block
  N_Block : OwnN K c_Block
  a_Block___init__ : Addr
  d_Block___init__ : FuncData
  F_Block___init__ : Fun K "__init__" "Block.__init__" s_Block___init__ a_Block___init__ d_Block___init__
  b_Block___init__ : Binds K d_Block___init__ ["self", "rounds", "lanes"] []
  k_Block___init__ : PySem.W.keepIn K (.ref a_Block___init__) = true
  M_Block : Mk K c_Block a_Block___init__
  a_Block___eq__ : Addr
  d_Block___eq__ : FuncData
  F_Block___eq__ : Fun K "__eq__" "Block.__eq__" s_Block___eq__ a_Block___eq__ d_Block___eq__
  b_Block___eq__ : Binds K d_Block___eq__ ["self", "other"] []
  k_Block___eq__ : PySem.W.keepIn K (.ref a_Block___eq__) = true
  O_Block : OwnQ K c_Block a_Block___eq__
  c_Plan : Addr
  m_Plan : mg "Plan" = some (.ref c_Plan)
  C_Plan : Cls K c_Plan
  n_Plan_blocks : NoAttr K c_Plan "blocks"
  n_Plan_found : NoAttr K c_Plan "found"
  I_Plan : OwnI K c_Plan
  N_Plan : OwnN K c_Plan
  e_Plan___init___0 : Addr
  a_Plan___init__ : Addr
  d_Plan___init__ : FuncData
  F_Plan___init__ : FunD K "__init__" "Plan.__init__" (defArgs s_Plan___init__) (defBody s_Plan___init__) (defScope s_Plan___init__) [(.ref e_Plan___init___0)] [] a_Plan___init__ d_Plan___init__
  b_Plan___init__ : Binds K d_Plan___init__ ["self", "blocks"] []
  k_Plan___init__ : PySem.W.keepIn K (.ref a_Plan___init__) = true
  M_Plan : Mk K c_Plan a_Plan___init__
  a_Plan___eq__ : Addr
  d_Plan___eq__ : FuncData
  F_Plan___eq__ : Fun K "__eq__" "Plan.__eq__" s_Plan___eq__ a_Plan___eq__ d_Plan___eq__
  b_Plan___eq__ : Binds K d_Plan___eq__ ["self", "other"] []
  k_Plan___eq__ : PySem.W.keepIn K (.ref a_Plan___eq__) = true
  O_Plan : OwnQ K c_Plan a_Plan___eq__
  kit_InvalidPlan_RingError : PySem.W.kitOne K (.ref c_InvalidPlan) (.ref c_RingError) = some true
  kit_InvalidPlan_InvalidBlock : PySem.W.kitOne K (.ref c_InvalidPlan) (.ref c_InvalidBlock) = some false
  kit_Plan_Block : PySem.W.kitOne K (.ref c_Plan) (.ref c_Block) = some false
  kit_Lane_Block : PySem.W.kitOne K (.ref c_Lane) (.ref c_Block) = some false
  A_WAYS : Addr
  m_WAYS : mg "WAYS" = some (.ref A_WAYS)
  s_WAYS : ∀ H, SqT K H A_WAYS [.str "up", .str "down"]
  A_SIGNS : Addr
  m_SIGNS : mg "SIGNS" = some (.ref A_SIGNS)
  s_SIGNS : ∀ H, SqT K H A_SIGNS [.str "+", .str "-"]
  A_DEEDS : Addr
  m_DEEDS : mg "DEEDS" = some (.ref A_DEEDS)
  s_DEEDS : ∀ H, SqT K H A_DEEDS [.str "add", .str "put"]
  a_is_whole : Addr
  d_is_whole : FuncData
  F_is_whole : Fun K "is_whole" "is_whole" s_is_whole a_is_whole d_is_whole
  b_is_whole : Binds K d_is_whole ["value"] []
  k_is_whole : PySem.W.keepIn K (.ref a_is_whole) = true
  m_is_whole : mg "is_whole" = some (.ref a_is_whole)
  a_is_sequence : Addr
  d_is_sequence : FuncData
  F_is_sequence : Fun K "is_sequence" "is_sequence" s_is_sequence a_is_sequence d_is_sequence
  b_is_sequence : Binds K d_is_sequence ["value"] []
  k_is_sequence : PySem.W.keepIn K (.ref a_is_sequence) = true
  m_is_sequence : mg "is_sequence" = some (.ref a_is_sequence)
  a__law_box : Addr
  d__law_box : FuncData
  F__law_box : Fun K "_law_box" "_law_box" s__law_box a__law_box d__law_box
  b__law_box : Binds K d__law_box ["_law_script", "_law_k"] []
  k__law_box : PySem.W.keepIn K (.ref a__law_box) = true
  m__law_box : mg "_law_box" = some (.ref a__law_box)
  a__law_take : Addr
  d__law_take : FuncData
  F__law_take : Fun K "_law_take" "_law_take" s__law_take a__law_take d__law_take
  b__law_take : Binds K d__law_take ["_law_box_here", "_law_many"] []
  k__law_take : PySem.W.keepIn K (.ref a__law_take) = true
  m__law_take : mg "_law_take" = some (.ref a__law_take)
  a__law_pick : Addr
  d__law_pick : FuncData
  F__law_pick : Fun K "_law_pick" "_law_pick" s__law_pick a__law_pick d__law_pick
  b__law_pick : Binds K d__law_pick ["_law_box_here", "_law_some"] []
  k__law_pick : PySem.W.keepIn K (.ref a__law_pick) = true
  m__law_pick : mg "_law_pick" = some (.ref a__law_pick)
  a__law_form : Addr
  d__law_form : FuncData
  F__law_form : Fun K "_law_form" "_law_form" s__law_form a__law_form d__law_form
  b__law_form : Binds K d__law_form ["_law_box_here", "_law_far"] []
  k__law_form : PySem.W.keepIn K (.ref a__law_form) = true
  m__law_form : mg "_law_form" = some (.ref a__law_form)
  a__law_lane : Addr
  d__law_lane : FuncData
  F__law_lane : Fun K "_law_lane" "_law_lane" s__law_lane a__law_lane d__law_lane
  b__law_lane : Binds K d__law_lane ["_law_box_here", "_law_far"] []
  k__law_lane : PySem.W.keepIn K (.ref a__law_lane) = true
  m__law_lane : mg "_law_lane" = some (.ref a__law_lane)
  a__law_block : Addr
  d__law_block : FuncData
  F__law_block : Fun K "_law_block" "_law_block" s__law_block a__law_block d__law_block
  b__law_block : Binds K d__law_block ["_law_box_here", "_law_lanes", "_law_far"] []
  k__law_block : PySem.W.keepIn K (.ref a__law_block) = true
  m__law_block : mg "_law_block" = some (.ref a__law_block)
  a__law_known_plan : Addr
  d__law_known_plan : FuncData
  F__law_known_plan : Fun K "_law_known_plan" "_law_known_plan" s__law_known_plan a__law_known_plan d__law_known_plan
  b__law_known_plan : Binds K d__law_known_plan ["_law_box_here"] []
  k__law_known_plan : PySem.W.keepIn K (.ref a__law_known_plan) = true
  m__law_known_plan : mg "_law_known_plan" = some (.ref a__law_known_plan)
  a__law_plan : Addr
  d__law_plan : FuncData
  F__law_plan : Fun K "_law_plan" "_law_plan" s__law_plan a__law_plan d__law_plan
  b__law_plan : Binds K d__law_plan ["_law_box_here", "_law_blocks", "_law_lanes", "_law_far"] []
  k__law_plan : PySem.W.keepIn K (.ref a__law_plan) = true
  m__law_plan : mg "_law_plan" = some (.ref a__law_plan)
  a__law_lane_of : Addr
  d__law_lane_of : FuncData
  F__law_lane_of : Fun K "_law_lane_of" "_law_lane_of" s__law_lane_of a__law_lane_of d__law_lane_of
  b__law_lane_of : Binds K d__law_lane_of ["_law_lane_here"] []
  k__law_lane_of : PySem.W.keepIn K (.ref a__law_lane_of) = true
  m__law_lane_of : mg "_law_lane_of" = some (.ref a__law_lane_of)
  a__law_plan_of : Addr
  d__law_plan_of : FuncData
  F__law_plan_of : Fun K "_law_plan_of" "_law_plan_of" s__law_plan_of a__law_plan_of d__law_plan_of
  b__law_plan_of : Binds K d__law_plan_of ["_law_plan_here"] []
  k__law_plan_of : PySem.W.keepIn K (.ref a__law_plan_of) = true
  m__law_plan_of : mg "_law_plan_of" = some (.ref a__law_plan_of)
  a__law_any : Addr
  d__law_any : FuncData
  F__law_any : Fun K "_law_any" "_law_any" s__law_any a__law_any d__law_any
  b__law_any : Binds K d__law_any ["_law_box_here", "_law_deep"] []
  k__law_any : PySem.W.keepIn K (.ref a__law_any) = true
  m__law_any : mg "_law_any" = some (.ref a__law_any)
  a__law_is_refused : Addr
  d__law_is_refused : FuncData
  F__law_is_refused : Fun K "_law_is_refused" "_law_is_refused" s__law_is_refused a__law_is_refused d__law_is_refused
  b__law_is_refused : Binds K d__law_is_refused ["_law_value"] []
  k__law_is_refused : PySem.W.keepIn K (.ref a__law_is_refused) = true
  m__law_is_refused : mg "_law_is_refused" = some (.ref a__law_is_refused)
  a_law : Addr
  d_law : FuncData
  F_law : Fun K "law" "law" s_law a_law d_law
  b_law : Binds K d_law ["_law_script"] []
  k_law : PySem.W.keepIn K (.ref a_law) = true
  m_law : mg "law" = some (.ref a_law)
  z_abs : mg "abs" = none
  z_all : mg "all" = none
  z_bool : mg "bool" = none
  z_int : mg "int" = none
  z_isinstance : mg "isinstance" = none
  z_len : mg "len" = none
  z_list : mg "list" = none
  z_max : mg "max" = none
  z_min : mg "min" = none
  z_range : mg "range" = none
  z_tuple : mg "tuple" = none
section
variable {P : Program} {w : World} {K : PySem.W.Frag} {mg : Str → Option Value} {base : Heap}
def spTake : Sp := fun vs H Q _ => ∃ (b : Addr) (m : Int), vs = [.ref b, .int m] ∧ Box H b ∧ 0 < m ∧ m < 2 ^ 40 ∧
  ∀ (r : Int) (H' : Hp), 0 ≤ r → r < m → Box H' b → But b H H' → Q (.int r) H'
theorem ok_take (T : Txt K mg) : FnOk P w K mg base CX0 1 T.a__law_take T.d__law_take ["_law_box_here", "_law_many"] spTake := by
  refine T.F__law_take.ok sc__law_take (fun vs H Q E h => ?_) (fun cdv A outer s H vs Q E hr h => ?_)
  · obtain ⟨b, m, rfl, _⟩ := h
    rfl
  · obtain ⟨b, m, rfl, ⟨x, y, z, hb, ⟨x0, y1, y2⟩⟩, m0, m1, k⟩ := h
    have nd := sc__law_take.nd
    refine ⟨_, (pss_cons (ps_if (pt_cmpR op_gt (pe_ix ix_list (pv 0) pe_int (fun _ _ => rfl)) pe_int (nomark _)) (pss_cons (ps_set (i := 2) nd rfl (Or.inl rfl) (pe_op op_mod (pe_callTy call_int1 (by rfl) T.z_int (by decide +kernel) (pa_cons (pe_ix ix_list (pv 0) pe_int (fun _ _ => rfl)) pa_nil)) (pv 1)))
    (pss_cons (ps_asg (pe_op op_fdivW (pe_ix ix_list (pv 0) pe_int (fun _ _ => rfl)) (pv 1)) (pg_sub (pv 0) pe_int set_list))
    (pss_one (ps_ret (pv 2))))) pss_nil)
    (pss_cons (ps_asg (pe_op op_add (pe_ix ix_list (pv 0) pe_int (fun _ _ => rfl)) pe_int) (pg_sub (pv 0) pe_int set_list))
    (pss_cons (ps_set (i := 3) nd rfl (Or.inl rfl) (pe_op op_mod (pe_callTy call_int1 (by rfl) T.z_int (by decide +kernel) (pa_cons (pe_op op_mul (pe_op op_add (pe_ix ix_list (pv 0) pe_int (fun _ _ => rfl)) (pe_op op_mul pe_int (pe_ix ix_list (pv 0) pe_int (fun _ _ => rfl)))) pe_int) pa_nil)) pe_int))
    (pss_cons (ps_asg (pe_op op_add (pe_op op_mod (pe_callTy call_int1 (by rfl) T.z_int (by decide +kernel) (pa_cons (pe_op op_add (pe_op op_mul (pv 3) pe_int) pe_int) pa_nil)) pe_int) pe_int) (pg_sub (pv 0) pe_int set_list))
    (pss_one (ps_ret (pe_op op_mod (pe_callTy call_int1 (by rfl) T.z_int (by decide +kernel) (pa_cons (pe_op op_fdiv (pe_op op_add (pe_op op_mul (pv 3) pe_int) (pe_ix ix_list (pv 0) pe_int (fun _ _ => rfl))) pe_int) pa_nil)) (pv 1)))))))), ?_⟩
    repeat walk_at "st"
    refine ifB (fun e => ?_) (fun e => ?_)
    · repeat walk_at "st"
      exact k _ _ (Int.emod_nonneg _ (by omega)) (Int.emod_lt_of_pos _ m0) ⟨x / m, y, z, upd_same, Int.ediv_nonneg x0 (by omega), y1, y2⟩ (But.refl _ _).upd
    · repeat walk_at "st"
      exact k _ _ (Int.emod_nonneg _ (by omega)) (Int.emod_lt_of_pos _ m0) ⟨_, _, _, upd_same, x0, by omega, by omega⟩ (((But.refl _ _).upd).upd)
local macro_rules | `(tactic| walk_at "boxtail") => `(tactic| (
  repeat walk_at "st"
  refine ifB (fun e9 => ?_) (fun e9 => ?_)))
/-- the box of a cell -/
def spBox (K : PySem.W.Frag) : Sp := fun vs H Q _ => ∃ (a : Addr) (ns : List Int) (i : Int), vs = [.ref a, .int i] ∧ SqL K H a (ns.map V.int) ∧ 0 ≤ i ∧ i < 1000 ∧
  ∀ (H' : Hp) (p : Addr), Same H H' → H p = none → Box H' p → Q (.ref p) H'
theorem ok_box (T : Txt K mg) : FnOk P w K mg base CX0 1 T.a__law_box T.d__law_box ["_law_script", "_law_k"] (spBox K) := by
  refine T.F__law_box.ok sc__law_box (fun vs H Q E h => ?_) (fun cdv A outer s H vs Q E hr h => ?_)
  · obtain ⟨a, ns, i, rfl, _⟩ := h
    rfl
  · obtain ⟨a, ns, i, rfl, hS, i0, i1, k⟩ := h
    have nd := sc__law_box.nd
    refine ⟨_, (pss_cons (ps_set (i := 2) nd rfl (Or.inl rfl) (pe_op op_add (pe_op op_mul pe_int (pv 1)) pe_int))
    (pss_cons (ps_if (pt_cmpR op_lt (pv 1) (pe_callB call_len_seq (by rfl) T.z_len (by decide +kernel) (pa_cons (pv 0) pa_nil)) (nomark _)) (pss_one (ps_set (i := 2) nd rfl (Or.inl rfl) (pe_callB call_abs (by rfl) T.z_abs (by decide +kernel) (pa_cons (pe_callTy call_int1 (by rfl) T.z_int (by decide +kernel) (pa_cons (pe_ix ix_list (pv 0) (pv 1) (fun _ _ => rfl)) pa_nil)) pa_nil)))) (pss_one (ps_if (pt_cmpR op_gt (pe_callB call_len_seq (by rfl) T.z_len (by decide +kernel) (pa_cons (pv 0) pa_nil)) pe_int (nomark _)) (pss_one (ps_set (i := 2) nd rfl (Or.inl rfl) (pe_op op_add (pv 2) (pe_op op_mul (pe_op op_mod (pe_callTy call_int1 (by rfl) T.z_int (by decide +kernel) (pa_cons (pe_ix ix_list (pv 0) (pe_op op_mod (pe_callTy call_int1 (by rfl) T.z_int (by decide +kernel) (pa_cons (pv 1) pa_nil)) (pe_callB call_len_seq (by rfl) T.z_len (by decide +kernel) (pa_cons (pv 0) pa_nil))) (fun _ _ => rfl)) pa_nil)) pe_int) pe_int)))) pss_nil)))
    (pss_cons (ps_set (i := 3) nd rfl (Or.inl rfl) (pe_op op_add (pe_op op_mod (pe_callTy call_int1 (by rfl) T.z_int (by decide +kernel) (pa_cons (pe_op op_add (pe_op op_add (pe_op op_mul (pe_op op_mod (pe_callTy call_int1 (by rfl) T.z_int (by decide +kernel) (pa_cons (pv 2) pa_nil)) pe_int) pe_int) (pe_op op_mul pe_int (pv 1))) pe_int) pa_nil)) pe_int) pe_int))
    (pss_cons (ps_set (i := 4) nd rfl (Or.inl rfl) (pe_ifExp (pt_cmpR op_ge (pv 2) (pe_op op_pow pe_int pe_int) (nomark _)) (pv 2) pe_int))
    (pss_one (ps_ret (pe_lst (pa_cons (pv 4) (pa_cons (pv 3) (pa_cons pe_int pa_nil)))))))))), ?_⟩
    repeat walk_at "st"
    refine ifB (fun e => ?_) (fun e => ?_)
    · have e := of_decide_eq_true e
      rw [List.length_map] at e
      obtain ⟨z, hz⟩ := ints_at i0 e
      refine ⟨_, rfl, _, rfl, _, _, _, _, rfl, rfl, hS, hz, ?_⟩
      have c0 := natAbs_abs (i := z)
      walk_at "boxtail"
      all_goals
        repeat walk_at "st"
        refine ⟨szL (Nat.le_of_ble_eq_true rfl), fun q hq => ?_⟩
        exact k _ _ (same_new (by assumption)) (by assumption) ⟨_, _, _, upd_same, by first | exact c0 | decide, by walk_at "om", by walk_at "om"⟩
    · repeat walk_at "st"
      refine ifB (fun e1 => ?_) (fun e1 => ?_)
      · have e1 := of_decide_eq_true e1
        repeat walk_at "st"
        rw [List.length_map] at e1
        obtain ⟨z, hz⟩ := ints_at (ns := ns) (k := i % ((ns.map V.int).length : Nat)) (Int.emod_nonneg _ (by rw [List.length_map]; omega)) (by rw [List.length_map]; exact Int.emod_lt_of_pos _ (by omega))
        refine ⟨_, _, _, _, rfl, rfl, hS, hz, ?_⟩
        walk_at "boxtail"
        all_goals
          repeat walk_at "st"
          refine ⟨szL (Nat.le_of_ble_eq_true rfl), fun q hq => ?_⟩
          exact k _ _ (same_new (by assumption)) (by assumption) ⟨_, _, _, upd_same, by walk_at "om", by walk_at "om", by walk_at "om"⟩
      · walk_at "boxtail"
        all_goals
          repeat walk_at "st"
          refine ⟨szL (Nat.le_of_ble_eq_true rfl), fun q hq => ?_⟩
          exact k _ _ (same_new (by assumption)) (by assumption) ⟨_, _, _, upd_same, by walk_at "om", by walk_at "om", by walk_at "om"⟩

/-- one of the items of a list -/
def spPick : Sp := fun vs H Q _ => ∃ (b L : Addr) (xs : List V), vs = [.ref b, .ref L] ∧ Box H b ∧ L ≠ b ∧ H L = some (.lst xs) ∧ 0 < xs.length ∧ xs.length < 1000 ∧
  ∀ (v : V) (H' : Hp), v ∈ xs → Box H' b → But b H H' → Q v H'
theorem ok_pick (T : Txt K mg) : FnOk P w K mg base CX0 2 T.a__law_pick T.d__law_pick ["_law_box_here", "_law_some"] spPick := by
  have G__law_take : FnOk P w K mg base CX0 1 T.a__law_take T.d__law_take ["_law_box_here", "_law_many"] spTake := ok_take T
  refine T.F__law_pick.ok sc__law_pick (fun vs H Q E h => ?_) (fun cdv A outer s H vs Q E hr h => ?_)
  · obtain ⟨b, L, xs, rfl, _⟩ := h
    rfl
  · obtain ⟨b, L, xs, rfl, hB, hne, hL, l0, l1, k⟩ := h
    have nd := sc__law_pick.nd
    refine ⟨_, (pss_one (ps_ret (pe_ix ix_list (pv 1) (pe_call G__law_take (hr.mono (by first | decide | omega)) (by rfl) T.m__law_take T.k__law_take T.b__law_take .nil pass0 (pa_cons (pv 0) (pa_cons (pe_callB call_len_seq (by rfl) T.z_len (by decide +kernel) (pa_cons (pv 1) pa_nil)) pa_nil))) (fun _ _ => rfl)))), ?_⟩
    repeat walk_at "st"
    refine ⟨b, _, rfl, hB, by omega, by omega, fun r H' r0 r1 B' k' => ?_⟩
    obtain ⟨v, hv, hz⟩ := mem_at r0 r1
    exact ⟨_, _, _, _, rfl, rfl, SqL.of (k' _ _ hne hL), hz, k v H' hv B' k'⟩

/-- a drawn form's arguments -/
def spForm : Sp := fun vs H Q _ => ∃ (b : Addr) (far : Int), vs = [.ref b, .int far] ∧ Box H b ∧ 0 < far ∧ far ≤ 1000 ∧
  ∀ (p : Addr) (t q c : Int) (H' : Hp), -1000 ≤ t → t ≤ 1000 → -1000 ≤ q → q ≤ 1000 → 1 ≤ c → c ≤ 3 → p ≠ b → H' p = some (.tup [.int t, .int q, .int c]) → Box H' b → But b H H' → Q (.ref p) H'
theorem ok_form (T : Txt K mg) : FnOk P w K mg base CX0 3 T.a__law_form T.d__law_form ["_law_box_here", "_law_far"] spForm := by
  have G__law_take : FnOk P w K mg base CX0 1 T.a__law_take T.d__law_take ["_law_box_here", "_law_many"] spTake := ok_take T
  have G__law_pick : FnOk P w K mg base CX0 2 T.a__law_pick T.d__law_pick ["_law_box_here", "_law_some"] spPick := ok_pick T
  refine T.F__law_form.ok sc__law_form (fun vs H Q E h => ?_) (fun cdv A outer s H vs Q E hr h => ?_)
  · obtain ⟨b, far, rfl, _⟩ := h
    rfl
  · obtain ⟨b, far, rfl, hB, f0, f1, k⟩ := h
    have nd := sc__law_form.nd
    refine ⟨_, (pss_cons (ps_set (i := 2) nd rfl (Or.inl rfl) (pe_call G__law_pick (hr.mono (by first | decide | omega)) (by rfl) T.m__law_pick T.k__law_pick T.b__law_pick .nil pass0 (pa_cons (pv 0) (pa_cons (pe_lst (pa_cons pe_int (pa_cons pe_int (pa_cons pe_int (pa_cons pe_int (pa_cons pe_int (pa_cons pe_int (pa_cons (pe_op op_sub pe_int pe_int) (pa_cons (pe_op op_sub (pe_call G__law_take (hr.mono (by first | decide | omega)) (by rfl) T.m__law_take T.k__law_take T.b__law_take .nil pass0 (pa_cons (pv 0) (pa_cons (pe_op op_add (pe_op op_mul pe_int (pv 1)) pe_int) pa_nil))) (pv 1)) pa_nil))))))))) pa_nil))))
    (pss_cons (ps_set (i := 3) nd rfl (Or.inl rfl) (pe_call G__law_pick (hr.mono (by first | decide | omega)) (by rfl) T.m__law_pick T.k__law_pick T.b__law_pick .nil pass0 (pa_cons (pv 0) (pa_cons (pe_lst (pa_cons pe_int (pa_cons pe_int (pa_cons (pe_op op_sub pe_int pe_int) (pa_cons pe_int (pa_cons (pe_op op_sub (pe_call G__law_take (hr.mono (by first | decide | omega)) (by rfl) T.m__law_take T.k__law_take T.b__law_take .nil pass0 (pa_cons (pv 0) (pa_cons (pe_op op_add (pe_op op_mul pe_int (pv 1)) pe_int) pa_nil))) (pv 1)) pa_nil)))))) pa_nil))))
    (pss_one (ps_ret (pe_tup (pa_cons (pv 2) (pa_cons (pv 3) (pa_cons (pe_call G__law_pick (hr.mono (by first | decide | omega)) (by rfl) T.m__law_pick T.k__law_pick T.b__law_pick .nil pass0 (pa_cons (pv 0) (pa_cons (pe_lst (pa_cons pe_int (pa_cons pe_int (pa_cons pe_int (pa_cons pe_int (pa_cons pe_int pa_nil)))))) pa_nil))) pa_nil)))))))), ?_⟩
    repeat walk_at "st"
    refine ⟨b, _, rfl, hB, by omega, by omega, fun r1 H1 r10 r11 B1 k1 => ?_⟩
    repeat walk_at "st"
    refine ⟨szL (Nat.le_of_ble_eq_true rfl), fun L1 n1 => ?_⟩
    refine ⟨b, L1, _, rfl, B1.same (same_new n1), B1.ne_none n1, upd_same, by simp, by simp, fun v H2 hv B2 k2 => ?_⟩
    obtain ⟨t, rfl, t0, t1⟩ : ∃ t, v = .int t ∧ -1000 ≤ t ∧ t ≤ 1000 := by
      simp only [List.mem_cons, List.not_mem_nil, or_false] at hv
      rcases hv with h | h | h | h | h | h | h | h <;> exact ⟨_, h, by walk_at "om", by walk_at "om"⟩
    repeat walk_at "st"
    refine ⟨b, _, rfl, B2, by omega, by omega, fun r2 H3 r20 r21 B3 k3 => ?_⟩
    repeat walk_at "st"
    refine ⟨szL (Nat.le_of_ble_eq_true rfl), fun L2 n2 => ?_⟩
    refine ⟨b, L2, _, rfl, B3.same (same_new n2), B3.ne_none n2, upd_same, by simp, by simp, fun v H4 hv B4 k4 => ?_⟩
    obtain ⟨q, rfl, q0, q1⟩ : ∃ t, v = .int t ∧ -1000 ≤ t ∧ t ≤ 1000 := by
      simp only [List.mem_cons, List.not_mem_nil, or_false] at hv
      rcases hv with h | h | h | h | h <;> exact ⟨_, h, by walk_at "om", by walk_at "om"⟩
    repeat walk_at "st"
    refine ⟨szL (Nat.le_of_ble_eq_true rfl), fun L3 n3 => ?_⟩
    refine ⟨b, L3, _, rfl, B4.same (same_new n3), B4.ne_none n3, upd_same, by simp, by simp, fun v H5 hv B5 k5 => ?_⟩
    obtain ⟨c, rfl, c0, c1⟩ : ∃ t, v = .int t ∧ 1 ≤ t ∧ t ≤ 3 := by
      simp only [List.mem_cons, List.not_mem_nil, or_false] at hv
      rcases hv with h | h | h | h | h <;> exact ⟨_, h, by walk_at "om", by walk_at "om"⟩
    refine ⟨szL (Nat.le_of_ble_eq_true rfl), fun p np => ?_⟩
    have kk := (((k1.trans (But.of_same (same_new n1))).trans k2).trans ((k3.trans (But.of_same (same_new n2))).trans k4)).trans ((But.of_same (same_new n3)).trans k5)
    exact k p t q c _ t0 t1 q0 q1 c0 c1 (B5.ne_none np) upd_same (B5.same (same_new np)) (kk.trans (But.of_same (same_new np)))

/-! what is drawn: forms, lanes, blocks -/
def FormD (H : Hp) (v : V) : Prop := ∃ p t q c, v = .ref p ∧ H p = some (.tup [.int t, .int q, .int c]) ∧ 1 ≤ c ∧ c ≤ 3
def ways : List Str := ["up", "down"]
def signs : List Str := ["+", "-"]
def deeds : List Str := ["add", "put"]
def LaneD (H : Hp) (v : V) : Prop := ∃ p x y f z, v = .ref p ∧ H p = some (.tup [.str x, .str y, f, .str z]) ∧ x ∈ ways ∧ y ∈ signs ∧ z ∈ deeds ∧ FormD H f
/-- a drawn block; its list of lanes stands neither at b nor at D -/
def BlockD (b D : Addr) (H : Hp) (v : V) : Prop := ∃ p f L ls, v = .ref p ∧ H p = some (.tup [f, .ref L]) ∧ FormD H f ∧ L ≠ b ∧ L ≠ D ∧ H L = some (.lst ls) ∧ 0 < ls.length ∧ ls.length ≤ 101 ∧ ∀ x ∈ ls, LaneD H x
theorem FormD.fz {H H' : Hp} {v : V} (h : FormD H v) (k : Fz H H') : FormD H' v := by
  obtain ⟨p, t, q, c, e, hp, r⟩ := h
  exact ⟨p, t, q, c, e, k _ _ trivial hp, r⟩
theorem LaneD.fz {H H' : Hp} {v : V} (h : LaneD H v) (k : Fz H H') : LaneD H' v := by
  obtain ⟨p, x, y, f, z, e, hp, h1, h2, h3, h4⟩ := h
  exact ⟨p, x, y, f, z, e, k _ _ trivial hp, h1, h2, h3, h4.fz k⟩
theorem BlockD.same {b D : Addr} {H H' : Hp} {v : V} (h : BlockD b D H v) (k : Same H H') : BlockD b D H' v := by
  obtain ⟨p, f, L, ls, e, hp, h1, n1, n2, hL, l0, l1, q⟩ := h
  exact ⟨p, f, L, ls, e, k _ _ hp, h1.fz (Fz.of_same k), n1, n2, k _ _ hL, l0, l1, fun x hx => (q x hx).fz (Fz.of_same k)⟩
theorem BlockD.but {b D : Addr} {H H' : Hp} {v : V} (h : BlockD b D H v) (B : Box H b) (k : But b H H') : BlockD b D H' v := by
  obtain ⟨p, f, L, ls, e, hp, h1, n1, n2, hL, l0, l1, q⟩ := h
  have z := B.fz k
  exact ⟨p, f, L, ls, e, z _ _ trivial hp, h1.fz z, n1, n2, k _ _ n1 hL, l0, l1, fun x hx => (q x hx).fz z⟩
theorem BlockD.set {b D : Addr} {H : Hp} {v : V} {xs : List V} {o : HO} (h : BlockD b D H v) (e0 : H D = some (.lst xs)) : BlockD b D (upd H D o) v := by
  obtain ⟨p, f, L, ls, e, hp, h1, n1, n2, hL, l0, l1, q⟩ := h
  have z : Fz H (upd H D o) := Fz.lst e0
  exact ⟨p, f, L, ls, e, z _ _ trivial hp, h1.fz z, n1, n2, by rw [upd_ne n2]; exact hL, l0, l1, fun x hx => (q x hx).fz z⟩
theorem BlockD.weak {b D : Addr} {H : Hp} {v : V} (h : BlockD b D H v) : BlockD b b H v := by
  obtain ⟨p, f, L, ls, e, hp, h1, n1, n2, r⟩ := h
  exact ⟨p, f, L, ls, e, hp, h1, n1, n1, r⟩
/-- its list was there when D was not yet -/
theorem BlockD.past {b c D : Addr} {H : Hp} {v : V} (h : BlockD b c H v) (n : H D = none) : BlockD b D H v := by
  obtain ⟨p, f, L, ls, e, hp, h1, n1, n2, hL, r⟩ := h
  exact ⟨p, f, L, ls, e, hp, h1, n1, ne_of_none hL n, hL, r⟩
theorem ne_of_none' {H : Hp} {a l : Addr} {o : HO} (h : H a = some o) (n : H l = none) : l ≠ a := by
  rintro rfl
  rw [n] at h
  cases h
/-! what a display comes to -/
def EvP (te : TE) (σ : L2.St) (H : Hp) (R : Hp → V → Prop) : Prop := ∀ Q : VK, (∀ v H', Same H H' → R H' v → Q v H') → te σ H Q
def EvS (ta : TA) (σ : L2.St) (H : Hp) (R : Hp → List V → Prop) : Prop := ∀ Q : List V → Hp → Prop, (∀ vs H', Same H H' → R H' vs → Q vs H') → ta σ H Q
/-- an integer's display, with its value -/
structure EvI (te : TE) (σ : L2.St) (i : Int) : Prop where
  go : ∀ (H : Hp) (Q : VK), Q (.int i) H → te σ H Q
section
variable {σ : L2.St} {H : Hp}
theorem evi_c {i : Int} : EvI (tC (.int i)) σ i := ⟨fun _ _ q => q⟩
theorem evi_m {i j : Int} : EvI (tOp (rI0 fun i j => .int (i - j)) (tC (.int i)) (tC (.int j))) σ (i - j) := ⟨fun _ _ q => ⟨_, _, rfl, rfl, q⟩⟩
theorem evp_form {a b c : TE} {t q k : Int} (ha : EvI a σ t) (hb : EvI b σ q) (hc : EvI c σ k) (h : 1 ≤ k ∧ k ≤ 3) : EvP (tTup (tCons a (tCons b (tCons c tNil)))) σ H FormD := fun Q g =>
  ha.go _ _ (hb.go _ _ (hc.go _ _ ⟨szL (Nat.le_of_ble_eq_true rfl), fun p np => g _ _ (same_new np) ⟨p, t, q, k, rfl, upd_same, h.1, h.2⟩⟩))
theorem evp_lane {te : TE} {x y z : Str} (hf : EvP te σ H FormD) (hx : x ∈ ways) (hy : y ∈ signs) (hz : z ∈ deeds) : EvP (tTup (tCons (tC (.str x)) (tCons (tC (.str y)) (tCons te (tCons (tC (.str z)) tNil))))) σ H LaneD := fun Q g =>
  hf _ fun f H1 s1 d => ⟨szL (Nat.le_of_ble_eq_true rfl), fun p np => g _ _ (s1.trans (same_new np)) ⟨p, x, y, f, z, rfl, upd_same, hx, hy, hz, d.fz (Fz.new np)⟩⟩
theorem evs_nil : EvS tNil σ H (fun H vs => vs = [] ∧ ∀ x ∈ vs, LaneD H x) := fun Q g => g _ _ (Same.refl _) ⟨rfl, fun x h => nomatch h⟩
theorem ev_cons {te : TE} {ta : TA} {Q : List V → Hp → Prop} {R : Hp → V → Prop} (h : EvP te σ H R) (q : ∀ v H1, Same H H1 → R H1 v → ta σ H1 (fun vs H2 => Q (v :: vs) H2)) : tCons te ta σ H Q := h _ fun v H1 s r => q v H1 s r
theorem ev_lst {ta : TA} {Q : VK} (h : ta σ H (fun vs H1 => vs.length ≤ sizeLine ∧ ∀ l, H1 l = none → Q (.ref l) (upd H1 l (.lst vs)))) : tLst ta σ H Q := h
theorem ev_arg {te : TE} {Q : List V → Hp → Prop} (h : te σ H (fun v H1 => Q [v] H1)) : tCons te tNil σ H Q := h
theorem ev_asg {te : TE} {g : V → L2.St → Hp → (L2.St → Hp → Prop) → Prop} {rest : TS} {D : Ends} (h : te σ H (fun x H1 => g x σ H1 (fun σ2 H2 => rest D σ2 H2))) : tSeq (tAsg te g) rest D σ H := h
def LanesD (H : Hp) (vs : List V) : Prop := 0 < vs.length ∧ vs.length ≤ 100 ∧ ∀ x ∈ vs, LaneD H x
theorem evs_one {te : TE} (h : EvP te σ H LaneD) : EvS (tCons te tNil) σ H LanesD := fun Q q => h _ fun v H1 s d => q _ _ s ⟨by simp, by simp, fun x hx => by
  rw [List.mem_singleton] at hx
  subst hx
  exact d⟩
theorem evs_two {te tf : TE} (h : EvP te σ H LaneD) (h2 : ∀ H', EvP tf σ H' LaneD) : EvS (tCons te (tCons tf tNil)) σ H LanesD := fun Q q => h _ fun v H1 s d => h2 H1 _ fun u H2 s2 d2 => q _ _ (s.trans s2) ⟨by simp, by simp, fun x hx => by
  simp only [List.mem_cons, List.not_mem_nil, or_false] at hx
  rcases hx with rfl | rfl
  · exact d.fz (Fz.of_same s2)
  · exact d2⟩
/-- a block's display: its list is new -/
theorem evp_block {b : Addr} {o : HO} {te : TE} {ta : TA} (hb : H b = some o) (hf : EvP te σ H FormD) (hl : ∀ H', EvS ta σ H' LanesD) : EvP (tTup (tCons te (tCons (tLst ta) tNil))) σ H (fun H' v => ∀ D o, H D = some o → BlockD b D H' v) := fun Q q =>
  hf _ fun f H1 s1 d1 => hl H1 _ fun vs H2 s2 d2 => ⟨szL (by have := d2.2.1; omega), fun l nl => ⟨szL (Nat.le_of_ble_eq_true rfl), fun p np => q _ _ (((s1.trans s2).trans (same_new nl)).trans (same_new np)) fun D o hD =>
    ⟨p, f, l, vs, rfl, upd_same, ((d1.fz (Fz.of_same s2)).fz (Fz.new nl)).fz (Fz.new np), ne_of_none' ((s1.trans s2) _ _ hb) nl, ne_of_none' ((s1.trans s2) _ _ hD) nl, same_new np _ _ upd_same, d2.1, Nat.le_succ_of_le d2.2.1, fun x hx => ((d2.2.2 x hx).fz (Fz.new nl)).fz (Fz.new np)⟩⟩⟩
end
def rListOf (K : PySem.W.Frag) : List V → Hp → VK → Prop := fun xs H Q => ∃ p ys, xs = [.ref p] ∧ (SqL K H p ys ∨ SqT K H p ys) ∧ ∀ l, H l = none → Q (.ref l) (upd H l (.lst ys))
theorem call_listK {X : Cx} {K : PySem.W.Frag} (e : X.K = K) : CallR X (.type "list") (rListOf K) := by
  subst e
  exact call_list_of
theorem cut_take (xs : List V) {n : Int} (h : 0 ≤ n) : cutV xs none (some n) = xs.take n.toNat := by
  obtain ⟨m, rfl⟩ : ∃ m : Nat, n = m := ⟨n.toNat, by omega⟩
  unfold cutV
  rw [HT.sIx_none, HT.sIx_nat, Nat.sub_zero, List.drop_zero, Int.toNat_natCast, ← List.take_eq_take_min]
theorem cut_mem {xs : List V} {lo hi : Option Int} {x : V} (h : x ∈ cutV xs lo hi) : x ∈ xs := List.mem_of_mem_drop (List.mem_of_mem_take h)
theorem call_isiK {X : Cx} {K : PySem.W.Frag} (e : X.K = K) : CallR X (.builtin "isinstance") (rIsi K) := by
  subst e
  exact call_isi
/-- a list or a tuple, walked -/
def iSeqA (K : PySem.W.Frag) (tl : TE) : TI := fun σ H R => tl σ H fun v H1 => ∃ a, v = .ref a ∧ ((∃ xs, SqL K H1 a xs ∧ R (Itl K a) H1) ∨ (∃ xs, SqT K H1 a xs ∧ R (Itt K a) H1))
theorem pi_seqA {X : Cx} {tg l : Expr} {tl : TE} (hl : PE X l tl) : PI X tg l (iSeqA X.K tl) := by
  refine ⟨fun pins s σ H R I h => thn (hl.run pins s σ H _ I h) fun v u res => ?_⟩
  obtain ⟨x, G, J, rx, a, ex, way⟩ := res
  subst ex
  cases rx
  have new : ∀ c ∈ [u.heap.objs.size], FpOk X pins G c := fun c hc => by
    obtain rfl : c = u.heap.objs.size := by simpa using hc
    exact J.fpOk (Nat.le_refl _) (J.hok.fresh (Nat.le_refl _))
  rcases way with ⟨xs, hq, q⟩ | ⟨xs, hq, q⟩
  · obtain ⟨its, rv, p, _⟩ := J.list hq
    refine wpAny_pyIter_list p.isList ⟨u.heap.objs.size, [u.heap.objs.size], _, _, G, rfl, ?_, turn_list a _, ⟨_, Heap.get?_push_size _ rfl, rfl, rfl⟩, new, q⟩
    exact J.kept (t' := u.toks) fun c r z => Heap.get?_push_of_some _ z
  · obtain ⟨its, rv, p, _⟩ := J.tuple hq
    refine wpAny_pyIter_tuple (show u.heap.IsTuple a its.toArray from p) ⟨u.heap.objs.size, [u.heap.objs.size], _, _, G, rfl, ?_, turn_tuple a _, ⟨_, Heap.get?_push_size _ rfl, rfl, rfl⟩, new, q⟩
    exact J.kept (t' := u.toks) fun c r z => Heap.get?_push_of_some _ z

def spLane : Sp := fun vs H Q _ => ∃ (b : Addr) (far : Int), vs = [.ref b, .int far] ∧ Box H b ∧ 0 < far ∧ far ≤ 1000 ∧ ∀ (v : V) (H' : Hp), LaneD H' v → Box H' b → But b H H' → Q v H'
theorem mem3 {x : Str} {v : V} {a b c : Str} {ys : List Str} (h : v ∈ [V.str a, V.str b, V.str c]) (ha : a ∈ ys) (hb : b ∈ ys) (hc : c ∈ ys) : ∃ x, v = .str x ∧ x ∈ ys := by
  simp only [List.mem_cons, List.not_mem_nil, or_false] at h
  rcases h with h | h | h
  · exact ⟨a, h, ha⟩
  · exact ⟨b, h, hb⟩
  · exact ⟨c, h, hc⟩
theorem ok_lane (T : Txt K mg) : FnOk P w K mg base CX0 4 T.a__law_lane T.d__law_lane ["_law_box_here", "_law_far"] spLane := by
  have G__law_pick : FnOk P w K mg base CX0 2 T.a__law_pick T.d__law_pick ["_law_box_here", "_law_some"] spPick := ok_pick T
  have G__law_form : FnOk P w K mg base CX0 3 T.a__law_form T.d__law_form ["_law_box_here", "_law_far"] spForm := ok_form T
  refine T.F__law_lane.ok sc__law_lane (fun vs H Q E h => ?_) (fun cdv A outer s H vs Q E hr h => ?_)
  · obtain ⟨b, far, rfl, _⟩ := h
    rfl
  · obtain ⟨b, far, rfl, hB, f0, f1, k⟩ := h
    have nd := sc__law_lane.nd
    refine ⟨_, (pss_cons (ps_par (i := 2) (j := 3) (by rfl) nd rfl rfl (by decide) rfl rfl (pa_cons (pe_call G__law_pick (hr.mono (by first | decide | omega)) (by rfl) T.m__law_pick T.k__law_pick T.b__law_pick .nil pass0 (pa_cons (pv 0) (pa_cons (pe_lst (pa_cons pe_str (pa_cons pe_str (pa_cons pe_str pa_nil)))) pa_nil))) (pa_cons (pe_call G__law_pick (hr.mono (by first | decide | omega)) (by rfl) T.m__law_pick T.k__law_pick T.b__law_pick .nil pass0 (pa_cons (pv 0) (pa_cons (pe_lst (pa_cons pe_str (pa_cons pe_str (pa_cons pe_str pa_nil)))) pa_nil))) pa_nil)) (by rfl))
    (pss_one (ps_ret (pe_tup (pa_cons (pv 2) (pa_cons (pv 3) (pa_cons (pe_call G__law_form (hr.mono (by first | decide | omega)) (by rfl) T.m__law_form T.k__law_form T.b__law_form .nil pass0 (pa_cons (pv 0) (pa_cons (pv 1) pa_nil))) (pa_cons (pe_call G__law_pick (hr.mono (by first | decide | omega)) (by rfl) T.m__law_pick T.k__law_pick T.b__law_pick .nil pass0 (pa_cons (pv 0) (pa_cons (pe_lst (pa_cons pe_str (pa_cons pe_str (pa_cons pe_str pa_nil)))) pa_nil))) pa_nil)))))))), ?_⟩
    refine ⟨_, rfl, szL (Nat.le_of_ble_eq_true rfl), fun L1 n1 => ?_⟩
    refine ⟨b, L1, _, rfl, hB.same (same_new n1), hB.ne_none n1, upd_same, by simp, by simp, fun v H2 hv B2 k2 => ?_⟩
    obtain ⟨x, rfl, hx⟩ := mem3 (x := "") (ys := ways) hv (by decide) (by decide) (by decide)
    refine ⟨_, rfl, szL (Nat.le_of_ble_eq_true rfl), fun L2 n2 => ?_⟩
    refine ⟨b, L2, _, rfl, B2.same (same_new n2), B2.ne_none n2, upd_same, by simp, by simp, fun v H3 hv B3 k3 => ?_⟩
    obtain ⟨y, rfl, hy⟩ := mem3 (x := "") (ys := signs) hv (by decide) (by decide) (by decide)
    refine ⟨_, _, rfl, ?_⟩
    refine ⟨_, rfl, _, rfl, _, rfl, _, rfl, b, far, rfl, B3, f0, f1, fun p t q c H4 t0 t1 q0 q1 c0 c1 _ hp B4 k4 => ?_⟩
    refine ⟨_, rfl, szL (Nat.le_of_ble_eq_true rfl), fun L3 n3 => ?_⟩
    refine ⟨b, L3, _, rfl, B4.same (same_new n3), B4.ne_none n3, upd_same, by simp, by simp, fun v H5 hv B5 k5 => ?_⟩
    obtain ⟨z, rfl, hz⟩ := mem3 (x := "") (ys := deeds) hv (by decide) (by decide) (by decide)
    refine ⟨szL (Nat.le_of_ble_eq_true rfl), fun pl npl => ?_⟩
    have k15 := (((But.of_same (same_new n1)).trans k2).trans ((But.of_same (same_new n2)).trans k3)).trans ((k4.trans (But.of_same (same_new n3))).trans k5)
    have z4 : Fz H4 H5 := (B4.fz ((But.of_same (same_new n3)).trans k5))
    have fd : FormD H5 (.ref p) := ⟨p, t, q, c, rfl, z4 _ _ trivial hp, c0, c1⟩
    exact k _ _ ⟨pl, x, y, _, z, rfl, upd_same, hx, hy, hz, fd.fz (Fz.new npl)⟩ (B5.same (same_new npl)) (k15.trans (But.of_same (same_new npl)))
def spBlock : Sp := fun vs H Q _ => ∃ (b : Addr) (many far : Int), vs = [.ref b, .int many, .int far] ∧ Box H b ∧ 0 < many ∧ many ≤ 50 ∧ 0 < far ∧ far ≤ 1000 ∧
  ∀ (v : V) (H' : Hp), (∀ D o, H D = some o → BlockD b D H' v) → Box H' b → But b H H' → Q v H'
theorem ok_block (T : Txt K mg) : FnOk P w K mg base CX0 5 T.a__law_block T.d__law_block ["_law_box_here", "_law_lanes", "_law_far"] spBlock := by
  have G__law_take : FnOk P w K mg base CX0 1 T.a__law_take T.d__law_take ["_law_box_here", "_law_many"] spTake := ok_take T
  have G__law_pick : FnOk P w K mg base CX0 2 T.a__law_pick T.d__law_pick ["_law_box_here", "_law_some"] spPick := ok_pick T
  have G__law_form : FnOk P w K mg base CX0 3 T.a__law_form T.d__law_form ["_law_box_here", "_law_far"] spForm := ok_form T
  have G__law_lane : FnOk P w K mg base CX0 4 T.a__law_lane T.d__law_lane ["_law_box_here", "_law_far"] spLane := ok_lane T
  refine T.F__law_block.ok sc__law_block (fun vs H Q E h => ?_) (fun cdv A outer s H vs Q E hr h => ?_)
  · obtain ⟨b, many, far, rfl, _⟩ := h
    rfl
  · obtain ⟨b, many, far, rfl, hB, m0, m1, f0, f1, k⟩ := h
    have nd := sc__law_block.nd
    refine ⟨_, (pss_cons (ps_set (i := 3) nd rfl (Or.inl rfl) (pe_call G__law_pick (hr.mono (by first | decide | omega)) (by rfl) T.m__law_pick T.k__law_pick T.b__law_pick .nil pass0 (pa_cons (pv 0) (pa_cons (pe_lst (pa_cons (pe_tup (pa_cons pe_int (pa_cons (pe_op op_sub pe_int pe_int) (pa_cons pe_int pa_nil)))) (pa_cons (pe_tup (pa_cons pe_int (pa_cons pe_int (pa_cons pe_int pa_nil)))) (pa_cons (pe_tup (pa_cons pe_int (pa_cons pe_int (pa_cons pe_int pa_nil)))) (pa_cons (pe_tup (pa_cons pe_int (pa_cons (pe_op op_sub pe_int pe_int) (pa_cons pe_int pa_nil)))) (pa_cons (pe_tup (pa_cons pe_int (pa_cons pe_int (pa_cons pe_int pa_nil)))) (pa_cons (pe_call G__law_form (hr.mono (by first | decide | omega)) (by rfl) T.m__law_form T.k__law_form T.b__law_form .nil pass0 (pa_cons (pv 0) (pa_cons (pv 2) pa_nil))) pa_nil))))))) pa_nil))))
    (pss_one (ps_ret (pe_tup (pa_cons (pv 3) (pa_cons (pe_lc (own := [("_law_turn", 4)]) (g := (gName 4)) (by rfl) nd (pi_range1 (by rfl) T.z_range (pa_cons (pe_op op_add pe_int (pe_call G__law_take (hr.mono (by first | decide | omega)) (by rfl) T.m__law_take T.k__law_take T.b__law_take .nil pass0 (pa_cons (pv 0) (pa_cons (pv 1) pa_nil)))) pa_nil)) (blkOk_by (N := ["_law_box_here", "_law_lanes", "_law_far", "_law_rounds", "_law_turn"]) (sc := defScope s__law_block) (own := [("_law_turn", 4)]) (by decide +kernel)) (fun _ _ _ _ _ => by exact (pg_name (i := 4) nd rfl (Or.inl rfl))) (fun _ _ _ _ _ => by exact pts_nil) (fun _ _ _ _ _ => by exact (pe_call G__law_lane (hr.mono (by first | decide | omega)) (by rfl) T.m__law_lane T.k__law_lane T.b__law_lane .nil pass0 (pa_cons (pv 0) (pa_cons (pv 2) pa_nil))))) pa_nil)))))), ?_⟩
    refine ⟨_, rfl, ?_⟩
    refine ev_arg (ev_lst ?_)
    refine ev_cons (evp_form evi_c evi_m evi_c (by decide)) fun v1 H1 s1 d1 => ?_
    refine ev_cons (evp_form evi_c evi_c evi_c (by decide)) fun v2 H2 s2 d2 => ?_
    refine ev_cons (evp_form evi_c evi_c evi_c (by decide)) fun v3 H3 s3 d3 => ?_
    refine ev_cons (evp_form evi_c evi_m evi_c (by decide)) fun v4 H4 s4 d4 => ?_
    refine ev_cons (evp_form evi_c evi_c evi_c (by decide)) fun v5 H5 s5 d5 => ?_
    have s15 := (((s1.trans s2).trans s3).trans s4).trans s5
    refine ⟨_, rfl, _, rfl, b, far, rfl, hB.same s15, f0, f1, fun p t q c H6 t0 t1 q0 q1 c0 c1 _ hp B6 k6 => ?_⟩
    have d6 : FormD H6 (.ref p) := ⟨p, t, q, c, rfl, hp, c0, c1⟩
    have z6 : Fz H5 H6 := (hB.same s15).fz k6
    refine ⟨szL (Nat.le_of_ble_eq_true rfl), fun L nL => ?_⟩
    refine ⟨b, L, _, rfl, B6.same (same_new nL), B6.ne_none nL, upd_same, by simp, by simp, fun v H7 hv B7 k7 => ?_⟩
    have z7 : Fz H6 H7 := B6.fz ((But.of_same (same_new nL)).trans k7)
    have fd : FormD H7 v := by
      simp only [List.mem_cons, List.not_mem_nil, or_false] at hv
      rcases hv with h | h | h | h | h | h
      · subst h; exact d1.fz ((Fz.of_same (((s2.trans s3).trans s4).trans s5)).trans (z6.trans z7))
      · subst h; exact d2.fz ((Fz.of_same ((s3.trans s4).trans s5)).trans (z6.trans z7))
      · subst h; exact d3.fz ((Fz.of_same (s4.trans s5)).trans (z6.trans z7))
      · subst h; exact d4.fz ((Fz.of_same s5).trans (z6.trans z7))
      · subst h; exact d5.fz (z6.trans z7)
      · subst h; exact d6.fz z7
    have k07 : But b H H7 := ((But.of_same s15).trans k6).trans ((But.of_same (same_new nL)).trans k7)
    refine ⟨_, rfl, _, rfl, _, rfl, b, many, rfl, B7, m0, by omega, fun r H8 r0 r1 B8 k8 => ?_⟩
    refine ⟨_, _, rfl, rfl, 1 + r, rfl, by omega, by omega, fun D hD => ?_⟩
    have k08 := k07.trans k8
    refine lc_range (fun i Hc => ∃ ls : List V, Hc D = some (.lst ls) ∧ ls.length = i ∧ (∀ x ∈ ls, LaneD Hc x) ∧ Box Hc b ∧ But b H8 Hc) ⟨[], upd_same, rfl, (fun x h => nomatch h), B8.same (same_new hD), But.of_same (same_new hD)⟩ (fun i Hc hi hP => ?_) (fun Hc hP => ?_)
    · obtain ⟨ls, hA, hl, hls, Bc, kc⟩ := hP
      have neD := B8.ne_none hD
      refine ⟨rfl, _, rfl, _, rfl, b, far, rfl, Bc, f0, f1, fun u H9 hu B9 k9 => ?_⟩
      have z9 := Bc.fz k9
      refine ⟨ls, k9 _ _ neD hA, szl (by omega), ls ++ [u], upd_same, by rw [List.length_append, hl]; rfl, fun x hx => ?_, box_ne B9 neD, but_new (kc.trans k9) hD⟩
      have zz : Fz H9 (upd H9 D (.lst (ls ++ [u]))) := Fz.lst (k9 _ _ neD hA)
      rcases List.mem_append.mp hx with h | h
      · exact ((hls x h).fz z9).fz zz
      · rw [List.mem_singleton] at h
        subst h
        exact hu.fz zz
    · obtain ⟨ls, hA, hl, hls, Bc, kc⟩ := hP
      refine ⟨szL (Nat.le_of_ble_eq_true rfl), fun p2 np2 => ?_⟩
      have neD := B8.ne_none hD
      have zc : Fz H7 Hc := (B7.fz k8).trans (B8.fz kc)
      have k0c := k08.trans kc
      refine k _ _ (fun D0 o hD0 => ?_) (Bc.same (same_new np2)) (k0c.trans (But.of_same (same_new np2)))
      have neDD : D ≠ D0 := by
        rintro rfl
        have := k08 _ _ neD hD0
        rw [hD] at this
        cases this
      exact ⟨p2, v, D, ls, rfl, upd_same, (fd.fz zc).fz (Fz.new np2), neD, neDD, same_new np2 _ _ hA, by omega, by omega, fun x hx => (hls x hx).fz (Fz.new np2)⟩

/-- a drawn plan's blocks, told by data -/
def PlanD (b : Addr) (H : Hp) (A : Addr) : Prop := A ≠ b ∧ ∃ xs, H A = some (.lst xs) ∧ 0 < xs.length ∧ xs.length ≤ 100 ∧ ∀ x ∈ xs, BlockD b b H x
def spKnown : Sp := fun vs H Q _ => ∃ (b : Addr), vs = [.ref b] ∧ Box H b ∧ ∀ (A : Addr) (H' : Hp), A ≠ b → (∃ xs, H' A = some (.lst xs) ∧ xs.length = 2 ∧ ∀ x ∈ xs, BlockD b b H' x) → Box H' b → But b H H' → Q (.ref A) H'
theorem ok_known (T : Txt K mg) : FnOk P w K mg base CX0 3 T.a__law_known_plan T.d__law_known_plan ["_law_box_here"] spKnown := by
  have G__law_pick : FnOk P w K mg base CX0 2 T.a__law_pick T.d__law_pick ["_law_box_here", "_law_some"] spPick := ok_pick T
  refine T.F__law_known_plan.ok sc__law_known_plan (fun vs H Q E h => ?_) (fun cdv A outer s H vs Q E hr h => ?_)
  · obtain ⟨b, rfl, _⟩ := h
    rfl
  · obtain ⟨b, rfl, hB, k⟩ := h
    have nd := sc__law_known_plan.nd
    refine ⟨_, (pss_cons (ps_set (i := 1) nd rfl (Or.inl rfl) (pe_lst (pa_cons (pe_tup (pa_cons (pe_tup (pa_cons pe_int (pa_cons (pe_op op_sub pe_int pe_int) (pa_cons pe_int pa_nil)))) (pa_cons (pe_lst (pa_cons (pe_tup (pa_cons pe_str (pa_cons pe_str (pa_cons (pe_tup (pa_cons pe_int (pa_cons pe_int (pa_cons pe_int pa_nil)))) (pa_cons pe_str pa_nil))))) pa_nil)) pa_nil))) (pa_cons (pe_tup (pa_cons (pe_tup (pa_cons pe_int (pa_cons (pe_op op_sub pe_int pe_int) (pa_cons pe_int pa_nil)))) (pa_cons (pe_lst (pa_cons (pe_tup (pa_cons pe_str (pa_cons pe_str (pa_cons (pe_tup (pa_cons pe_int (pa_cons pe_int (pa_cons pe_int pa_nil)))) (pa_cons pe_str pa_nil))))) pa_nil)) pa_nil))) pa_nil))))
    (pss_cons (ps_set (i := 2) nd rfl (Or.inl rfl) (pe_lst (pa_cons (pe_tup (pa_cons (pe_tup (pa_cons pe_int (pa_cons pe_int (pa_cons pe_int pa_nil)))) (pa_cons (pe_lst (pa_cons (pe_tup (pa_cons pe_str (pa_cons pe_str (pa_cons (pe_tup (pa_cons pe_int (pa_cons pe_int (pa_cons pe_int pa_nil)))) (pa_cons pe_str pa_nil))))) (pa_cons (pe_tup (pa_cons pe_str (pa_cons pe_str (pa_cons (pe_tup (pa_cons pe_int (pa_cons pe_int (pa_cons pe_int pa_nil)))) (pa_cons pe_str pa_nil))))) pa_nil))) pa_nil))) pa_nil)))
    (pss_cons (ps_expr (pe_bm PySem.F.plainAttrs_list PySem.F.slot_list_append PySem.F.type_list_append mt_append (pv 2) (pa_cons (pe_tup (pa_cons (pe_tup (pa_cons pe_int (pa_cons pe_int (pa_cons pe_int pa_nil)))) (pa_cons (pe_lst (pa_cons (pe_tup (pa_cons pe_str (pa_cons pe_str (pa_cons (pe_tup (pa_cons pe_int (pa_cons pe_int (pa_cons pe_int pa_nil)))) (pa_cons pe_str pa_nil))))) (pa_cons (pe_tup (pa_cons pe_str (pa_cons pe_str (pa_cons (pe_tup (pa_cons pe_int (pa_cons pe_int (pa_cons pe_int pa_nil)))) (pa_cons pe_str pa_nil))))) pa_nil))) pa_nil))) pa_nil)))
    (pss_cons (ps_set (i := 3) nd rfl (Or.inl rfl) (pe_lst (pa_cons (pe_tup (pa_cons (pe_tup (pa_cons pe_int (pa_cons (pe_op op_sub pe_int pe_int) (pa_cons pe_int pa_nil)))) (pa_cons (pe_lst (pa_cons (pe_tup (pa_cons pe_str (pa_cons pe_str (pa_cons (pe_tup (pa_cons pe_int (pa_cons pe_int (pa_cons pe_int pa_nil)))) (pa_cons pe_str pa_nil))))) pa_nil)) pa_nil))) (pa_cons (pe_tup (pa_cons (pe_tup (pa_cons pe_int (pa_cons (pe_op op_sub pe_int pe_int) (pa_cons pe_int pa_nil)))) (pa_cons (pe_lst (pa_cons (pe_tup (pa_cons pe_str (pa_cons pe_str (pa_cons (pe_tup (pa_cons pe_int (pa_cons (pe_op op_sub pe_int pe_int) (pa_cons pe_int pa_nil)))) (pa_cons pe_str pa_nil))))) pa_nil)) pa_nil))) pa_nil))))
    (pss_one (ps_ret (pe_call G__law_pick (hr.mono (by first | decide | omega)) (by rfl) T.m__law_pick T.k__law_pick T.b__law_pick .nil pass0 (pa_cons (pv 0) (pa_cons (pe_lst (pa_cons (pv 1) (pa_cons (pv 2) (pa_cons (pv 3) pa_nil)))) pa_nil))))))))), ?_⟩
    obtain ⟨bx, hbx⟩ : ∃ o, H b = some o := by
      obtain ⟨x, y, z, h, _⟩ := hB
      exact ⟨_, h⟩
    have fI := @evi_c
    refine ev_asg (ev_lst ?_)
    refine ev_cons (evp_block hbx (evp_form evi_c evi_m evi_c (by decide)) fun _ => evs_one (evp_lane (evp_form evi_c evi_c evi_c (by decide)) (by decide) (by decide) (by decide))) fun v1 H1 s1 d1 => ?_
    refine ev_cons (evp_block (s1 _ _ hbx) (evp_form evi_c evi_m evi_c (by decide)) fun _ => evs_one (evp_lane (evp_form evi_c evi_c evi_c (by decide)) (by decide) (by decide) (by decide))) fun v2 H2 s2 d2 => ?_
    refine ⟨szL (Nat.le_of_ble_eq_true rfl), fun l1 n1 => ?_⟩
    have s3 := (s1.trans s2).trans (same_new (o := .lst [v1, v2]) n1)
    have e1 : upd H2 l1 (.lst [v1, v2]) l1 = some (.lst [v1, v2]) := upd_same
    have b1 := ((d1 _ _ hbx).same s2).same (same_new (o := .lst [v1, v2]) n1)
    have b2 := (d2 _ _ (s1 _ _ hbx)).same (same_new (o := .lst [v1, v2]) n1)
    generalize upd H2 l1 (.lst [v1, v2]) = H3 at s3 e1 b1 b2
    refine ev_asg (ev_lst ?_)
    refine ev_cons (evp_block (s3 _ _ hbx) (evp_form evi_c evi_c evi_c (by decide)) fun _ => evs_two (evp_lane (evp_form evi_c evi_c evi_c (by decide)) (by decide) (by decide) (by decide)) fun _ => evp_lane (evp_form evi_c evi_c evi_c (by decide)) (by decide) (by decide) (by decide)) fun v3 H4 s4 d3 => ?_
    refine ⟨szL (Nat.le_of_ble_eq_true rfl), fun l2 n2 => ?_⟩
    have b3 := ((d3 _ _ (s3 _ _ hbx)).past n2).same (same_new (o := .lst [v3]) n2)
    have s5 := (s3.trans s4).trans (same_new (o := .lst [v3]) n2)
    have s5' := s4.trans (same_new (o := .lst [v3]) n2)
    have e2 : upd H4 l2 (.lst [v3]) l2 = some (.lst [v3]) := upd_same
    have n2' : H l2 = none := (s3.trans s4).free n2
    have e10 := s4 _ _ e1
    have s45 : Same H4 (upd H4 l2 (.lst [v3])) := same_new n2
    generalize upd H4 l2 (.lst [v3]) = H5 at s5 s5' s45 e2 b3
    have e1 := s5' _ _ e1
    have l12 : l1 ≠ l2 := ne_of_none e10 n2
    have b1 := ((b1.same s4).past n2).same s45
    have b2 := ((b2.same s4).past n2).same s45
    refine ⟨_, rfl, .inl ⟨rfl, _, SqL.of e2⟩, ?_⟩
    refine ev_cons (evp_block (s5 _ _ hbx) (evp_form evi_c evi_c evi_c (by decide)) fun _ => evs_two (evp_lane (evp_form evi_c evi_c evi_c (by decide)) (by decide) (by decide) (by decide)) fun _ => evp_lane (evp_form evi_c evi_c evi_c (by decide)) (by decide) (by decide) (by decide)) fun v4 H6 s6 d4 => ?_
    refine ⟨l2, _, _, rfl, rfl, s6 _ _ e2, by simp [sizeLine_eq], ?_⟩
    have e2' := s6 _ _ e2
    have b3 := (b3.same s6).set (o := .lst ([v3] ++ [v4])) e2'
    have b4 := (d4 _ _ e2).set (o := .lst ([v3] ++ [v4])) e2'
    have b1 := (b1.same s6).set (o := .lst ([v3] ++ [v4])) e2'
    have b2 := (b2.same s6).set (o := .lst ([v3] ++ [v4])) e2'
    have B6 := hB.same (s5.trans s6)
    have nb2 : l2 ≠ b := hB.ne_none n2'
    have B7 := box_ne (o := .lst ([v3] ++ [v4])) B6 nb2
    have k7 : But b H (upd H6 l2 (.lst ([v3] ++ [v4]))) := but_new (But.of_same (s5.trans s6)) n2'
    have e1 : upd H6 l2 (.lst ([v3] ++ [v4])) l1 = some (.lst [v1, v2]) := by
      rw [upd_ne l12]
      exact s6 _ _ e1
    have e2 : upd H6 l2 (.lst ([v3] ++ [v4])) l2 = some (.lst [v3, v4]) := upd_same
    generalize upd H6 l2 (.lst ([v3] ++ [v4])) = H7 at b1 b2 b3 b4 B7 k7 e1 e2
    obtain ⟨bx7, hbx7⟩ : ∃ o, H7 b = some o := by
      obtain ⟨x, y, z, h, _⟩ := B7
      exact ⟨_, h⟩
    dsimp only
    refine ev_asg (ev_lst ?_)
    refine ev_cons (evp_block hbx7 (evp_form evi_c evi_m evi_c (by decide)) fun _ => evs_one (evp_lane (evp_form evi_c evi_c evi_c (by decide)) (by decide) (by decide) (by decide))) fun v5 H8 s8 d5 => ?_
    refine ev_cons (evp_block (s8 _ _ hbx7) (evp_form evi_c evi_m evi_c (by decide)) fun _ => evs_one (evp_lane (evp_form evi_c evi_m evi_c (by decide)) (by decide) (by decide) (by decide))) fun v6 H9 s9 d6 => ?_
    refine ⟨szL (Nat.le_of_ble_eq_true rfl), fun l3 n3 => ?_⟩
    have s10 := (s8.trans s9).trans (same_new (o := .lst [v5, v6]) n3)
    have e3 : upd H9 l3 (.lst [v5, v6]) l3 = some (.lst [v5, v6]) := upd_same
    have b5 := ((d5 _ _ hbx7).same s9).same (same_new (o := .lst [v5, v6]) n3)
    have b6 := (d6 _ _ (s8 _ _ hbx7)).same (same_new (o := .lst [v5, v6]) n3)
    have n3' : H7 l3 = none := (s8.trans s9).free n3
    generalize upd H9 l3 (.lst [v5, v6]) = H10 at s10 e3 b5 b6
    have B10 := B7.same s10
    refine ⟨_, rfl, _, rfl, _, rfl, _, rfl, szL (Nat.le_of_ble_eq_true rfl), fun l4 n4 => ?_⟩
    refine ⟨b, l4, _, rfl, B10.same (same_new n4), B10.ne_none n4, upd_same, by simp, by simp, fun v H11 hv B11 k11 => ?_⟩
    have k1011 : But b H10 H11 := (But.of_same (same_new n4)).trans k11
    have k711 := (But.of_same (b := b) s10).trans k1011
    have kk := k7.trans k711
    have nb1 : l1 ≠ b := fun e => by
      obtain ⟨x, y, z, h, _⟩ := B7
      rw [e, h] at e1
      have : boxL x y z = [v1, v2] := by injection e1 with e1; injection e1
      cases this
    have nb3 : l3 ≠ b := B7.ne_none n3'
    simp only [List.mem_cons, List.not_mem_nil, or_false] at hv
    rcases hv with rfl | rfl | rfl
    · exact k _ _ nb1 ⟨_, k711 _ _ nb1 e1, rfl, fun x hx => by
        simp only [List.mem_cons, List.not_mem_nil, or_false] at hx
        rcases hx with rfl | rfl
        · exact b1.weak.but B7 k711
        · exact b2.weak.but B7 k711⟩ B11 kk
    · exact k _ _ nb2 ⟨_, k711 _ _ nb2 e2, rfl, fun x hx => by
        simp only [List.mem_cons, List.not_mem_nil, or_false] at hx
        rcases hx with rfl | rfl
        · exact b3.weak.but B7 k711
        · exact b4.weak.but B7 k711⟩ B11 kk
    · exact k _ _ nb3 ⟨_, k1011 _ _ nb3 e3, rfl, fun x hx => by
        simp only [List.mem_cons, List.not_mem_nil, or_false] at hx
        rcases hx with rfl | rfl
        · exact b5.weak.but B10 k1011
        · exact b6.weak.but B10 k1011⟩ B11 kk
def spPlan : Sp := fun vs H Q _ => ∃ (b : Addr) (blocks lanes far : Int), vs = [.ref b, .int blocks, .int lanes, .int far] ∧ Box H b ∧ 0 < blocks ∧ blocks ≤ 50 ∧ 0 < lanes ∧ lanes ≤ 50 ∧ 0 < far ∧ far ≤ 1000 ∧ ∀ (A : Addr) (H' : Hp), PlanD b H' A → Box H' b → But b H H' → Q (.ref A) H'
theorem ok_plan (T : Txt K mg) : FnOk P w K mg base CX0 6 T.a__law_plan T.d__law_plan ["_law_box_here", "_law_blocks", "_law_lanes", "_law_far"] spPlan := by
  have G__law_take : FnOk P w K mg base CX0 1 T.a__law_take T.d__law_take ["_law_box_here", "_law_many"] spTake := ok_take T
  have G__law_pick : FnOk P w K mg base CX0 2 T.a__law_pick T.d__law_pick ["_law_box_here", "_law_some"] spPick := ok_pick T
  have G__law_form : FnOk P w K mg base CX0 3 T.a__law_form T.d__law_form ["_law_box_here", "_law_far"] spForm := ok_form T
  have G__law_lane : FnOk P w K mg base CX0 4 T.a__law_lane T.d__law_lane ["_law_box_here", "_law_far"] spLane := ok_lane T
  have G__law_block : FnOk P w K mg base CX0 5 T.a__law_block T.d__law_block ["_law_box_here", "_law_lanes", "_law_far"] spBlock := ok_block T
  have G__law_known_plan : FnOk P w K mg base CX0 3 T.a__law_known_plan T.d__law_known_plan ["_law_box_here"] spKnown := ok_known T
  refine T.F__law_plan.ok sc__law_plan (fun vs H Q E h => ?_) (fun cdv A outer s H vs Q E hr h => ?_)
  · obtain ⟨b, blocks, lanes, far, rfl, _⟩ := h
    rfl
  · obtain ⟨b, blocks, lanes, far, rfl, hB, b0, b1, m0, m1, f0, f1, k⟩ := h
    have nd := sc__law_plan.nd
    refine ⟨_, (pss_cons (ps_if (pt_cmpR op_gt (pe_call G__law_take (hr.mono (by first | decide | omega)) (by rfl) T.m__law_take T.k__law_take T.b__law_take .nil pass0 (pa_cons (pv 0) (pa_cons pe_int pa_nil))) pe_int (nomark _)) (pss_cons (ps_setLc (i := 4) (own := [("_law_rounds", 5), ("_law_some", 6)]) (g := (gTup K 2 (gCons (gName 5) (gCons (gName 6) gNil)))) (by rfl) nd rfl rfl (sw_true rfl rfl rfl (by decide +kernel)) (pi_list (pe_call G__law_known_plan (hr.mono (by first | decide | omega)) (by rfl) T.m__law_known_plan T.k__law_known_plan T.b__law_known_plan .nil pass0 (pa_cons (pv 0) pa_nil))) (blkOk_by (N := ["_law_box_here", "_law_blocks", "_law_lanes", "_law_far", "_law_found", "_law_rounds", "_law_some", "_law_at", "_law_form_here", "_law_times", "_law_plus", "_law_by", "_law_turn"]) (sc := defScope s__law_plan) (own := [("_law_rounds", 5), ("_law_some", 6)]) (by decide +kernel)) (fun _ _ _ _ _ => by exact (pg_tup rfl (pgs_cons (pg_name (i := 5) nd rfl (Or.inl rfl)) (pgs_cons (pg_name (i := 6) nd rfl (Or.inl rfl)) pgs_nil)))) (fun _ _ _ _ _ => by exact pts_nil) (fun _ _ _ _ _ => by exact (pe_tup (pa_cons (pv 5) (pa_cons (pe_callTy (call_listK (K := K) rfl) (by rfl) T.z_list (by decide +kernel) (pa_cons (pv 6) pa_nil)) pa_nil)))))
    (pss_cons (ps_set (i := 7) nd rfl (Or.inl rfl) (pe_call G__law_take (hr.mono (by first | decide | omega)) (by rfl) T.m__law_take T.k__law_take T.b__law_take .nil pass0 (pa_cons (pv 0) (pa_cons (pe_callB call_len_seq (by rfl) T.z_len (by decide +kernel) (pa_cons (pv 4) pa_nil)) pa_nil))))
    (pss_cons (ps_set (i := 8) nd rfl (Or.inl rfl) (pe_call G__law_take (hr.mono (by first | decide | omega)) (by rfl) T.m__law_take T.k__law_take T.b__law_take .nil pass0 (pa_cons (pv 0) (pa_cons pe_int pa_nil))))
    (pss_cons (ps_if (pt_cmpR op_eq (pv 8) pe_int (nomark _)) (pss_cons (ps_asg (pe_ix ix_tup (pe_ix ix_list (pv 4) (pv 7) (fun _ _ => rfl)) pe_int (fun _ _ => rfl)) (pg_tup rfl (pgs_cons (pg_name (i := 9) nd rfl (Or.inl rfl)) (pgs_cons (pg_name (i := 10) nd rfl (Or.inl rfl)) (pgs_cons (pg_name (i := 11) nd rfl (Or.inl rfl)) pgs_nil)))))
    (pss_one (ps_asg (pe_tup (pa_cons (pe_tup (pa_cons (pv 9) (pa_cons (pe_op op_add (pv 10) (pe_call G__law_pick (hr.mono (by first | decide | omega)) (by rfl) T.m__law_pick T.k__law_pick T.b__law_pick .nil pass0 (pa_cons (pv 0) (pa_cons (pe_lst (pa_cons pe_int (pa_cons (pe_op op_sub pe_int pe_int) pa_nil))) pa_nil)))) (pa_cons (pv 11) pa_nil)))) (pa_cons (pe_ix ix_tup (pe_ix ix_list (pv 4) (pv 7) (fun _ _ => rfl)) pe_int (fun _ _ => rfl)) pa_nil))) (pg_sub (pv 4) (pv 7) set_list)))) (pss_one (ps_if (pt_cmpR op_eq (pv 8) pe_int (nomark _)) (pss_one (ps_asg (pe_tup (pa_cons (pe_ix ix_tup (pe_ix ix_list (pv 4) (pv 7) (fun _ _ => rfl)) pe_int (fun _ _ => rfl)) (pa_cons (pe_op op_cat (pe_slice sl_list (pe_ix ix_tup (pe_ix ix_list (pv 4) (pv 7) (fun _ _ => rfl)) pe_int (fun _ _ => rfl)) po_none (po_some (pe_op op_sub (pv 2) pe_int))) (pe_lst (pa_cons (pe_call G__law_lane (hr.mono (by first | decide | omega)) (by rfl) T.m__law_lane T.k__law_lane T.b__law_lane .nil pass0 (pa_cons (pv 0) (pa_cons (pv 3) pa_nil))) pa_nil))) pa_nil))) (pg_sub (pv 4) (pv 7) set_list))) (pss_one (ps_if (pt_cmpR op_eq (pv 8) pe_int (nomark _)) (pss_one (ps_set (i := 4) nd rfl (Or.inl rfl) (pe_op op_cat (pe_op op_cat (pe_slice sl_list (pv 4) po_none (po_some (pv 7))) (pe_lst (pa_cons (pe_call G__law_block (hr.mono (by first | decide | omega)) (by rfl) T.m__law_block T.k__law_block T.b__law_block .nil pass0 (pa_cons (pv 0) (pa_cons pe_int (pa_cons (pv 3) pa_nil)))) pa_nil))) (pe_slice sl_list (pv 4) (po_some (pv 7)) po_none)))) pss_nil)))))
    (pss_one (ps_ret (pe_slice sl_list (pv 4) po_none (po_some (pv 1))))))))) pss_nil)
    (pss_one (ps_ret (pe_lc (own := [("_law_turn", 12)]) (g := (gName 12)) (by rfl) nd (pi_range1 (by rfl) T.z_range (pa_cons (pe_op op_add pe_int (pe_call G__law_take (hr.mono (by first | decide | omega)) (by rfl) T.m__law_take T.k__law_take T.b__law_take .nil pass0 (pa_cons (pv 0) (pa_cons (pv 1) pa_nil)))) pa_nil)) (blkOk_by (N := ["_law_box_here", "_law_blocks", "_law_lanes", "_law_far", "_law_found", "_law_rounds", "_law_some", "_law_at", "_law_form_here", "_law_times", "_law_plus", "_law_by", "_law_turn"]) (sc := defScope s__law_plan) (own := [("_law_turn", 12)]) (by decide +kernel)) (fun _ _ _ _ _ => by exact (pg_name (i := 12) nd rfl (Or.inl rfl))) (fun _ _ _ _ _ => by exact pts_nil) (fun _ _ _ _ _ => by exact (pe_call G__law_block (hr.mono (by first | decide | omega)) (by rfl) T.m__law_block T.k__law_block T.b__law_block .nil pass0 (pa_cons (pv 0) (pa_cons (pv 2) (pa_cons (pv 3) pa_nil))))))))), ?_⟩
    refine ⟨_, rfl, b, 3, rfl, hB, by decide, by decide, fun r H1 r0 r1 B1 k1 => ?_⟩
    refine ⟨_, _, rfl, rfl, _, rfl, ifB (fun e => ?_) (fun e => ?_)⟩
    · refine ⟨_, rfl, b, rfl, B1, fun A0 H2 neA hA2 B2 k2 => ?_⟩
      obtain ⟨xs, hA, lA, hxs⟩ := hA2
      refine ⟨A0, rfl, ⟨_, SqL.of hA⟩, fun D hD => ?_⟩
      have neD := B2.ne_none hD
      have neAD : A0 ≠ D := ne_of_none hA hD
      refine lc_list (xs := xs) (fun i Hc => ∃ ys, Hc D = some (.lst ys) ∧ ys.length = i ∧ (∀ y ∈ ys, BlockD b D Hc y) ∧ Same H2 Hc) ⟨[], upd_same, rfl, (fun x h => nomatch h), same_new hD⟩ (fun i Hc _ hP => ?_) (fun i x Hc hx hP => ?_) (fun Hc hP => ?_)
      · obtain ⟨ys, _, _, _, sc⟩ := hP
        exact SqL.of (sc _ _ hA)
      · obtain ⟨ys, hDc, hl, hys, sc⟩ := hP
        obtain ⟨p, f, L, ls, rfl, hp, hf, n1, n2, hL, l0, l1, q⟩ := (hxs x (List.mem_of_getElem? hx)).same sc
        refine ⟨p, _, rfl, SqT.of hp, rfl, _, _, rfl, _, _, rfl, rfl, rfl, ?_⟩
        refine ⟨_, rfl, _, rfl, L, _, rfl, .inl (SqL.of hL), fun L' nL' => ?_⟩
        refine ⟨szL (Nat.le_of_ble_eq_true rfl), fun p' np' => ?_⟩
        have s1 := (same_new (H := Hc) (o := .lst ls) nL').trans (same_new (o := .tup [f, .ref L']) np')
        have hD' := s1 _ _ hDc
        refine ⟨ys, hD', szl (by have := (List.getElem?_eq_some_iff.mp hx).1; omega), ys ++ [.ref p'], upd_same, by rw [List.length_append, hl]; rfl, fun y hy => ?_, same_lst (sc.trans s1) hD⟩
        rcases List.mem_append.mp hy with h | h
        · exact ((hys y h).same s1).set hD'
        · rw [List.mem_singleton] at h
          subst h
          have zz : Fz (upd (upd Hc L' (.lst ls)) p' (.tup [f, .ref L'])) (upd (upd (upd Hc L' (.lst ls)) p' (.tup [f, .ref L'])) D (.lst (ys ++ [.ref p']))) := Fz.lst hD'
          have z1 : Fz Hc (upd (upd Hc L' (.lst ls)) p' (.tup [f, .ref L'])) := Fz.of_same s1
          have Bc := B2.same sc
          have neL'D : L' ≠ D := ne_of_none' hDc nL'
          exact ⟨p', f, L', ls, rfl, zz _ _ trivial upd_same, (hf.fz z1).fz zz, Bc.ne_none nL', neL'D, by rw [upd_ne neL'D]; exact same_new np' _ _ upd_same, l0, l1, fun z hz => ((q z hz).fz z1).fz zz⟩
      · obtain ⟨ys, hDc, hl, hys, sc⟩ := hP
        have Bc := B2.same sc
        have kc : But b H Hc := (k1.trans k2).trans (But.of_same sc)
        rw [lA] at hl
        refine ⟨_, rfl, _, rfl, D, _, rfl, .inl (SqL.of hDc), b, _, rfl, Bc, by omega, by omega, fun at' H3 a0 a1 B3 k3 => ?_⟩
        rw [hl] at a1
        refine ⟨_, rfl, b, 4, rfl, B3, by decide, by decide, fun fh H4 fh0 fh1 B4 k4 => ?_⟩
        have k34 := k3.trans k4
        have hD4 : H4 D = some (.lst ys) := k34 _ _ neD hDc
        have hys4 : ∀ y ∈ ys, BlockD b D H4 y := fun y hy => (hys y hy).but Bc k34
        obtain ⟨y0, hy0, hat⟩ : ∃ y, y ∈ ys ∧ atI ys at' = some y := mem_at a0 (by rw [hl]; exact a1)
        have ix : ixN ys.length at' = some at'.toNat := by
          rw [hl]
          unfold ixN
          rw [if_pos a0, if_pos (by omega)]
        have fin : ∀ (D' : Addr) (zs : List V) (H' : Hp) (σ : L2.St), H' D' = some (.lst zs) → 0 < zs.length → zs.length ≤ 100 → (∀ z ∈ zs, BlockD b b H' z) → Box H' b → But b H H' →
            ∀ p, H' p = none → Q (.ref p) (upd H' p (.lst (zs.take blocks.toNat))) := fun D' zs H' σ hz z0 z1 zb Bz kz p np =>
          k p _ ⟨Bz.ne_none np, zs.take blocks.toNat, upd_same, by rw [List.length_take]; omega, by rw [List.length_take]; omega, fun x hx => (zb x (List.mem_of_mem_take hx)).same (same_new np)⟩ (Bz.same (same_new np)) (kz.trans (But.of_same (same_new np)))
        have tail : ∀ (D' : Addr) (zs : List V) (H' : Hp), H' D' = some (.lst zs) → 0 < zs.length → zs.length ≤ 100 → (∀ z ∈ zs, BlockD b b H' z) → Box H' b → But b H H' →
            ∀ p, H' p = none → Q (.ref p) (upd H' p (.lst (cutV zs none (some blocks)))) := fun D' zs H' hz z0 z1 zb Bz kz p np => by
          rw [cut_take zs (by omega)]
          exact fin D' zs H' [] hz z0 z1 zb Bz kz p np
        obtain ⟨p, f, L, ls, ey, hp, hf, n1, n2, hL, l0, l1, q⟩ := hys4 y0 hy0
        subst ey
        have kk4 := (kc.trans k34)
        have nD0 : H D = none := by
          cases e0 : H D with
          | none => rfl
          | some o =>
            have := (k1.trans k2) D o neD e0
            rw [hD] at this
            cases this
        refine ⟨_, rfl, rfl, _, rfl, ifB (fun e1 => ?_) (fun e1 => ?_)⟩
        · refine ⟨_, rfl, _, rfl, _, _, _, _, rfl, rfl, SqL.of hD4, hat, _, _, _, _, rfl, rfl, SqT.of hp, rfl, ?_⟩
          obtain ⟨pf, t, qq, c, rfl, hpf, c0, c1⟩ := hf
          refine ⟨pf, _, rfl, SqT.of hpf, rfl, _, _, rfl, _, _, rfl, _, _, rfl, rfl, ?_⟩
          refine ⟨_, rfl, _, rfl, _, rfl, _, _, rfl, rfl, szL (Nat.le_of_ble_eq_true rfl), fun L5 n5 => ?_⟩
          refine ⟨b, L5, _, rfl, B4.same (same_new n5), B4.ne_none n5, upd_same, by simp, by simp, fun v H5 hv B5 k5 => ?_⟩
          obtain ⟨u, rfl⟩ : ∃ u, v = .int u := by
            simp only [List.mem_cons, List.not_mem_nil, or_false] at hv
            rcases hv with h | h <;> exact ⟨_, h⟩
          refine ⟨_, _, rfl, rfl, _, rfl, szL (Nat.le_of_ble_eq_true rfl), fun r1 nr1 => ?_⟩
          have k46 : But b H4 (upd H5 r1 (.tup [.int t, .int (qq + u), .int c])) := ((But.of_same (same_new n5)).trans k5).trans (But.of_same (same_new nr1))
          have e6 : upd H5 r1 (.tup [.int t, .int (qq + u), .int c]) r1 = some (.tup [.int t, .int (qq + u), .int c]) := upd_same
          have B6 := B5.same (same_new (o := .tup [.int t, .int (qq + u), .int c]) nr1)
          generalize upd H5 r1 (.tup [.int t, .int (qq + u), .int c]) = H6 at k46 e6 B6
          have hD6 := k46 _ _ neD hD4
          have hp6 := (B4.fz k46) _ (.tup [.ref pf, .ref L]) trivial hp
          refine ⟨_, rfl, _, rfl, _, _, _, _, rfl, rfl, SqL.of hD6, hat, _, _, _, _, rfl, rfl, SqT.of hp6, rfl, ?_⟩
          refine ⟨szL (Nat.le_of_ble_eq_true rfl), fun r2 nr2 => ?_⟩
          have k47 := k46.trans (But.of_same (b := b) (same_new (o := .tup [.ref r1, .ref L]) nr2))
          have B7 := B6.same (same_new (o := .tup [.ref r1, .ref L]) nr2)
          have e7 : upd H6 r2 (.tup [.ref r1, .ref L]) r2 = some (.tup [.ref r1, .ref L]) := upd_same
          have e6 := same_new (o := .tup [.ref r1, .ref L]) nr2 _ _ e6
          generalize upd H6 r2 (.tup [.ref r1, .ref L]) = H7 at k47 e7 B7 e6
          have hD7 := k47 _ _ neD hD4
          refine ⟨_, rfl, _, rfl, D, _, at', at'.toNat, rfl, rfl, hD7, ix, ?_⟩
          have zf : Fz H7 (upd H7 D (.lst (ys.set at'.toNat (.ref r2)))) := Fz.lst hD7
          have z47 := B4.fz k47
          refine ⟨_, rfl, _, rfl, _, rfl, D, _, rfl, SqL.of upd_same, fun p9 np9 => ?_⟩
          refine tail D _ _ upd_same (by rw [List.length_set]; omega) (by rw [List.length_set]; omega) (fun z hz => ?_) (box_ne B7 neD) (but_new (kk4.trans k47) nD0) p9 np9
          rcases List.mem_or_eq_of_mem_set hz with h | h
          · exact (((hys4 z h).but B4 k47).set hD7).weak
          · subst h
            exact ⟨r2, .ref r1, L, ls, rfl, zf _ _ trivial e7, ⟨r1, t, _, c, rfl, zf _ _ trivial e6, c0, c1⟩, n1, n1, by rw [upd_ne n2]; exact k47 _ _ n1 hL, l0, l1, fun x hx => ((q x hx).fz z47).fz zf⟩
        · refine ⟨_, rfl, rfl, _, rfl, ifB (fun e2 => ?_) (fun e2 => ?_)⟩
          · refine ⟨_, rfl, _, rfl, _, _, _, _, rfl, rfl, SqL.of hD4, hat, _, _, _, _, rfl, rfl, SqT.of hp, rfl, ?_⟩
            refine ⟨_, rfl, _, rfl, _, _, _, _, rfl, rfl, SqL.of hD4, hat, _, _, _, _, rfl, rfl, SqT.of hp, rfl, ?_⟩
            refine ⟨_, rfl, _, _, rfl, rfl, _, rfl, L, _, rfl, SqL.of hL, fun S1 nS1 => ?_⟩
            have lc : (cutV ls none (some (lanes - 1))).length ≤ 50 := by rw [cut_take ls (by omega), List.length_take]; omega
            refine ⟨_, rfl, _, rfl, b, far, rfl, B4.same (same_new nS1), f0, f1, fun u H5 hu B5 k5 => ?_⟩
            refine ⟨szL (Nat.le_of_ble_eq_true rfl), fun S2 nS2 => ?_⟩
            have hS1 : upd H5 S2 (.lst [u]) S1 = some (.lst (cutV ls none (some (lanes - 1)))) := same_new nS2 _ _ (k5 _ _ (B4.ne_none nS1) upd_same)
            have hS2 : upd H5 S2 (.lst [u]) S2 = some (.lst [u]) := upd_same
            have k46 : But b H4 (upd H5 S2 (.lst [u])) := ((But.of_same (same_new nS1)).trans k5).trans (But.of_same (same_new nS2))
            have B6 := B5.same (same_new (o := .lst [u]) nS2)
            have hu := hu.fz (Fz.new (o := .lst [u]) nS2)
            generalize upd H5 S2 (.lst [u]) = H6 at hS1 hS2 k46 B6 hu
            refine ⟨S1, S2, _, _, rfl, rfl, hS1, hS2, by have e := sizeLine_eq; show (cutV ls none (some (lanes - 1))).length + 1 ≤ sizeLine; omega, fun S3 nS3 => ?_⟩
            refine ⟨szL (Nat.le_of_ble_eq_true rfl), fun r2 nr2 => ?_⟩
            have k47 := (k46.trans (But.of_same (b := b) (same_new (o := .lst (cutV ls none (some (lanes - 1)) ++ [u])) nS3))).trans (But.of_same (b := b) (same_new (o := .tup [f, .ref S3]) nr2))
            have B7 := (B6.same (same_new (o := .lst (cutV ls none (some (lanes - 1)) ++ [u])) nS3)).same (same_new (o := .tup [f, .ref S3]) nr2)
            have e7 : upd (upd H6 S3 (.lst (cutV ls none (some (lanes - 1)) ++ [u]))) r2 (.tup [f, .ref S3]) r2 = some (.tup [f, .ref S3]) := upd_same
            have e3 : upd (upd H6 S3 (.lst (cutV ls none (some (lanes - 1)) ++ [u]))) r2 (.tup [f, .ref S3]) S3 = some (.lst (cutV ls none (some (lanes - 1)) ++ [u])) := same_new nr2 _ _ upd_same
            have hu := (hu.fz (Fz.new (o := .lst (cutV ls none (some (lanes - 1)) ++ [u])) nS3)).fz (Fz.new (o := .tup [f, .ref S3]) nr2)
            have nb3 : S3 ≠ b := B6.ne_none nS3
            have nD3 : S3 ≠ D := ne_of_none' (k46 _ _ neD hD4) nS3
            generalize upd (upd H6 S3 (.lst (cutV ls none (some (lanes - 1)) ++ [u]))) r2 (.tup [f, .ref S3]) = H7 at k47 e7 B7 e3 hu
            have hD7 := k47 _ _ neD hD4
            refine ⟨_, rfl, _, rfl, D, _, at', at'.toNat, rfl, rfl, hD7, ix, ?_⟩
            have zf : Fz H7 (upd H7 D (.lst (ys.set at'.toNat (.ref r2)))) := Fz.lst hD7
            have z47 := B4.fz k47
            refine ⟨_, rfl, _, rfl, _, rfl, D, _, rfl, SqL.of upd_same, fun p9 np9 => ?_⟩
            refine tail D _ _ upd_same (by rw [List.length_set]; omega) (by rw [List.length_set]; omega) (fun z hz => ?_) (box_ne B7 neD) (but_new (kk4.trans k47) nD0) p9 np9
            rcases List.mem_or_eq_of_mem_set hz with h | h
            · exact (((hys4 z h).but B4 k47).set hD7).weak
            · subst h
              refine ⟨r2, f, S3, _, rfl, zf _ _ trivial e7, (hf.fz z47).fz zf, nb3, nb3, by rw [upd_ne nD3]; exact e3, by rw [List.length_append]; exact Nat.lt_of_lt_of_le (Nat.zero_lt_one) (Nat.le_add_left _ _), by rw [List.length_append]; show _ + 1 ≤ 101; omega, fun x hx => ?_⟩
              rcases List.mem_append.mp hx with h | h
              · exact ((q x (cut_mem h)).fz z47).fz zf
              · rw [List.mem_singleton] at h
                subst h
                exact hu.fz zf
          · refine ⟨_, rfl, rfl, _, rfl, ifB (fun e3 => ?_) (fun e3 => ?_)⟩
            · refine ⟨_, rfl, _, rfl, _, rfl, D, _, rfl, SqL.of hD4, fun S1 nS1 => ?_⟩
              have lc1 := cutV_length ys none (some at')
              have lc2 := cutV_length ys (some at') none
              refine ⟨_, rfl, _, rfl, b, 1, far, rfl, B4.same (same_new nS1), by decide, by decide, f0, f1, fun u H5 hu B5 k5 => ?_⟩
              refine ⟨szL (Nat.le_of_ble_eq_true rfl), fun S2 nS2 => ?_⟩
              have hS1 : upd H5 S2 (.lst [u]) S1 = some (.lst (cutV ys none (some at'))) := same_new nS2 _ _ (k5 _ _ (B4.ne_none nS1) upd_same)
              have hS2 : upd H5 S2 (.lst [u]) S2 = some (.lst [u]) := upd_same
              have k46 : But b H4 (upd H5 S2 (.lst [u])) := ((But.of_same (same_new nS1)).trans k5).trans (But.of_same (same_new nS2))
              have B6 := B5.same (same_new (o := .lst [u]) nS2)
              have hu6 := (hu D _ (same_new nS1 _ _ hD4)).weak.same (same_new (o := .lst [u]) nS2)
              generalize upd H5 S2 (.lst [u]) = H6 at hS1 hS2 k46 B6 hu6
              refine ⟨S1, S2, _, _, rfl, rfl, hS1, hS2, by have e := sizeLine_eq; show (cutV ys none (some at')).length + 1 ≤ sizeLine; omega, fun S3 nS3 => ?_⟩
              have k47 := k46.trans (But.of_same (b := b) (same_new (o := .lst (cutV ys none (some at') ++ [u])) nS3))
              have s67 := same_new (H := H6) (o := .lst (cutV ys none (some at') ++ [u])) nS3
              have e3 : upd H6 S3 (.lst (cutV ys none (some at') ++ [u])) S3 = some (.lst (cutV ys none (some at') ++ [u])) := upd_same
              generalize upd H6 S3 (.lst (cutV ys none (some at') ++ [u])) = H7 at k47 s67 e3
              refine ⟨_, rfl, _, rfl, _, rfl, D, _, rfl, SqL.of (k47 _ _ neD hD4), fun S4 nS4 => ?_⟩
              refine ⟨S3, S4, _, _, rfl, rfl, same_new nS4 _ _ e3, upd_same, by have e := sizeLine_eq; rw [List.length_append]; show (cutV ys none (some at')).length + 1 + _ ≤ sizeLine; omega, fun S5 nS5 => ?_⟩
              have s69 := (s67.trans (same_new (o := .lst (cutV ys (some at') none)) nS4)).trans (same_new (o := .lst ((cutV ys none (some at') ++ [u]) ++ cutV ys (some at') none)) nS5)
              have e5 : upd (upd H7 S4 (.lst (cutV ys (some at') none))) S5 (.lst ((cutV ys none (some at') ++ [u]) ++ cutV ys (some at') none)) S5 = some (.lst ((cutV ys none (some at') ++ [u]) ++ cutV ys (some at') none)) := upd_same
              generalize upd (upd H7 S4 (.lst (cutV ys (some at') none))) S5 (.lst ((cutV ys none (some at') ++ [u]) ++ cutV ys (some at') none)) = H9 at s69 e5
              have k49 := k46.trans (But.of_same (b := b) s69)
              refine ⟨_, rfl, _, rfl, _, rfl, S5, _, rfl, SqL.of e5, fun p9 np9 => ?_⟩
              refine tail S5 _ _ e5 (by rw [List.length_append, List.length_append]; show 0 < _ + 1 + _; omega) (by rw [List.length_append, List.length_append]; show _ + 1 + _ ≤ 100; omega) (fun z hz => ?_) (B6.same s69) (kk4.trans k49) p9 np9
              rcases List.mem_append.mp hz with h | h
              · rcases List.mem_append.mp h with h | h
                · exact ((hys4 z (cut_mem h)).but B4 k49).weak
                · rw [List.mem_singleton] at h
                  subst h
                  exact hu6.same s69
              · exact ((hys4 z (cut_mem h)).but B4 k49).weak
            · refine ⟨_, rfl, _, rfl, _, rfl, D, _, rfl, SqL.of hD4, fun p np => ?_⟩
              exact tail D ys H4 hD4 (by omega) (by omega) (fun z hz => (hys4 z hz).weak) B4 kk4 p np
    · refine ⟨_, rfl, _, rfl, b, blocks, rfl, B1, b0, by omega, fun m H2 m0' m1' B2 k2 => ?_⟩
      refine ⟨_, _, rfl, rfl, 1 + m, rfl, by omega, by omega, fun D hD => ?_⟩
      have neD := B2.ne_none hD
      refine lc_range (fun i Hc => ∃ ys, Hc D = some (.lst ys) ∧ ys.length = i ∧ (∀ y ∈ ys, BlockD b D Hc y) ∧ Box Hc b ∧ But b H2 Hc) ⟨[], upd_same, rfl, (fun x h => nomatch h), B2.same (same_new hD), But.of_same (same_new hD)⟩ (fun i Hc hi hP => ?_) (fun Hc hP => ?_)
      · obtain ⟨ys, hDc, hl, hys, Bc, kc⟩ := hP
        refine ⟨rfl, _, rfl, _, rfl, _, rfl, b, lanes, far, rfl, Bc, m0, m1, f0, f1, fun u H3 hu B3 k3 => ?_⟩
        have hD3 := k3 _ _ neD hDc
        refine ⟨ys, hD3, szl (by omega), ys ++ [u], upd_same, by rw [List.length_append, hl]; rfl, fun y hy => ?_, box_ne B3 neD, but_new (kc.trans k3) hD⟩
        rcases List.mem_append.mp hy with h | h
        · exact ((hys y h).but Bc k3).set hD3
        · rw [List.mem_singleton] at h
          subst h
          exact (hu _ _ hDc).set hD3
      · obtain ⟨ys, hDc, hl, hys, Bc, kc⟩ := hP
        exact k _ _ ⟨neD, ys, hDc, by omega, by omega, fun x hx => (hys x hx).weak⟩ Bc ((k1.trans k2).trans kc)

/-! what is made: forms, lanes, blocks, plans -/
def InsOf (C : Addr) (H : Hp) (v : V) : Prop := ∃ x dx fs, v = .ref x ∧ H x = some (.ins C dx fs)
theorem InsOf.fz {C : Addr} {H H' : Hp} {v : V} (h : InsOf C H v) (k : Fz H H') : InsOf C H' v := by
  obtain ⟨x, dx, fs, e, hx⟩ := h
  exact ⟨x, dx, fs, e, k _ _ trivial hx⟩
theorem ok_whole (T : Txt K mg) : FnOk P w K mg base CX0 1 T.a_is_whole T.d_is_whole ["value"] spWhole := by
  refine T.F_is_whole.ok sc_is_whole (fun vs H Q E h => ?_) (fun cdv A outer s H vs Q E hr h => ?_)
  · obtain ⟨b, v, rfl, _⟩ := h
    rfl
  · obtain ⟨b, v, rfl, hv, k⟩ := h
    have nd := sc_is_whole.nd
    refine ⟨_, (pss_one (ps_ret (pe_and (pe_callB call_isi (by rfl) T.z_isinstance (by decide +kernel) (pa_cons (pv 0) (pa_cons (pe_bltn (v := .ty "int") (u := .type "int") (by rfl) T.z_int (by decide +kernel) (by exact rfl)) pa_nil))) (pe_one (pe_not (pe_callB call_isi (by rfl) T.z_isinstance (by decide +kernel) (pa_cons (pv 0) (pa_cons (pe_bltn (v := .ty "bool") (u := .type "bool") (by rfl) T.z_bool (by decide +kernel) (by exact rfl)) pa_nil)))))))), ?_⟩
    obtain ⟨t, ty, ki, kb⟩ := hv.ty (K := K)
    refine ⟨_, rfl, _, _, _, _, _, rfl, .ty _, ty, kit_ty ki, _, rfl, ifB (fun e => ?_) (fun e => ?_)⟩
    · refine ⟨_, rfl, _, _, _, _, _, rfl, .ty _, ty, kit_ty kb, _, rfl, ?_⟩
      rw [isInt_bl e]
      exact k
    · show Q (.bl false) H
      rw [isInt_no e]
      exact k
def spFormI (C : Addr) : Sp := fun vs H Q _ => ∃ (x dx : Addr) (t q c : Int), vs = [.ref x, .int t, .int q, .int c] ∧ H x = some (.ins C dx []) ∧ 1 ≤ c ∧ ∀ fs, Q .non (upd H x (.ins C dx fs))
theorem ok_formI (T : Txt K mg) : FnOk P w K mg base CX0 2 T.a_Form___init__ T.d_Form___init__ ["self", "times", "plus", "by"] (spFormI T.c_Form) := by
  have G_is_whole : FnOk P w K mg base CX0 1 T.a_is_whole T.d_is_whole ["value"] spWhole := ok_whole T
  refine T.F_Form___init__.ok sc_Form___init__ (fun vs H Q E h => ?_) (fun cdv A outer s H vs Q E hr h => ?_)
  · obtain ⟨x, dx, t, q, c, rfl, _⟩ := h
    rfl
  · obtain ⟨x, dx, t, q, c, rfl, hx, hc, kn⟩ := h
    have nd := sc_Form___init__.nd
    refine ⟨_, (pss_cons (ps_if (pt_not (pt_val (pe_call G_is_whole (hr.mono (by first | decide | omega)) (by rfl) T.m_is_whole T.k_is_whole T.b_is_whole .nil pass0 (pa_cons (pv 1) pa_nil)))) (pss_one ps_never) pss_nil)
    (pss_cons (ps_if (pt_not (pt_val (pe_call G_is_whole (hr.mono (by first | decide | omega)) (by rfl) T.m_is_whole T.k_is_whole T.b_is_whole .nil pass0 (pa_cons (pv 2) pa_nil)))) (pss_one ps_never) pss_nil)
    (pss_cons (ps_if (PW.pt (pw_or (pt_not (pt_val (pe_call G_is_whole (hr.mono (by first | decide | omega)) (by rfl) T.m_is_whole T.k_is_whole T.b_is_whole .nil pass0 (pa_cons (pv 3) pa_nil)))) (pw_or1 (pt_cmpR op_lt (pv 3) pe_int (nomark _))))) (pss_one ps_never) pss_nil)
    (pss_cons (ps_fld (pv 0) (pv 1) rfl)
    (pss_cons (ps_fld (pv 0) (pv 2) rfl)
    (pss_one (ps_fld (pv 0) (pv 3) rfl))))))), ?_⟩
    refine ⟨_, rfl, x, _, rfl, trivial, _, rfl, ifF rfl ?_⟩
    refine ⟨_, rfl, x, _, rfl, trivial, _, rfl, ifF rfl ?_⟩
    refine ⟨_, rfl, x, _, rfl, trivial, _, rfl, ifF rfl ?_⟩
    refine ⟨_, rfl, _, _, rfl, rfl, _, rfl, ifF (decide_eq_false (by omega)) ?_⟩
    refine ⟨_, rfl, _, rfl, x, T.c_Form, dx, _, rfl, hx, T.C_Form, T.n_Form_times, by decide, ?_⟩
    refine ⟨_, rfl, _, rfl, x, T.c_Form, dx, _, rfl, upd_same, T.C_Form, T.n_Form_plus, by show 1 < 1000; decide, ?_⟩
    refine ⟨_, rfl, _, rfl, x, T.c_Form, dx, _, rfl, upd_same, T.C_Form, T.n_Form_by, by show 2 < 1000; decide, ?_⟩
    show Q .non _
    rw [upd_upd, upd_upd]
    exact kn _
def spLaneI (CL CF : Addr) : Sp := fun vs H Q _ => ∃ (x dx : Addr) (y z d : Str) (f : V), vs = [.ref x, .str y, .str z, f, .str d] ∧ H x = some (.ins CL dx []) ∧ y ∈ ways ∧ z ∈ signs ∧ d ∈ deeds ∧ InsOf CF H f ∧ ∀ fs, Q .non (upd H x (.ins CL dx fs))
theorem isOne_mem {y : Str} {ys : List Str} (h : y ∈ ys) : isOne ys (.str y) = true := by
  show ys.any (· == y) = true
  rw [List.any_eq_true]
  exact ⟨y, h, by simp⟩
theorem ok_laneI (T : Txt K mg) : FnOk P w K mg base CX0 2 T.a_Lane___init__ T.d_Lane___init__ ["self", "way", "sign", "shift", "deed"] (spLaneI T.c_Lane T.c_Form) := by
  refine T.F_Lane___init__.ok sc_Lane___init__ (fun vs H Q E h => ?_) (fun cdv A outer s H vs Q E hr h => ?_)
  · obtain ⟨x, dx, y, z, d, f, rfl, _⟩ := h
    rfl
  · obtain ⟨x, dx, y, z, d, f, rfl, hx, hy, hz, hd, ⟨xf, dxf, fs, rfl, hf⟩, kn⟩ := h
    have nd := sc_Lane___init__.nd
    refine ⟨_, (pss_cons (ps_if (pt_cmpR (op_notInSh hr.units) (pv 1) (pe_glob rfl T.m_WAYS (rel_ref _)) (by rfl)) (pss_one ps_never) pss_nil)
    (pss_cons (ps_if (pt_cmpR (op_notInSh hr.units) (pv 2) (pe_glob rfl T.m_SIGNS (rel_ref _)) (by rfl)) (pss_one ps_never) pss_nil)
    (pss_cons (ps_if (pt_not (pt_val (pe_callB call_isi (by rfl) T.z_isinstance (by decide +kernel) (pa_cons (pv 3) (pa_cons (pe_glob rfl T.m_Form (rel_ref _)) pa_nil))))) (pss_one ps_never) pss_nil)
    (pss_cons (ps_if (pt_cmpR (op_notInSh hr.units) (pv 4) (pe_glob rfl T.m_DEEDS (rel_ref _)) (by rfl)) (pss_one ps_never) pss_nil)
    (pss_cons (ps_fld (pv 0) (pv 1) rfl)
    (pss_cons (ps_fld (pv 0) (pv 2) rfl)
    (pss_cons (ps_fld (pv 0) (pv 3) rfl)
    (pss_one (ps_fld (pv 0) (pv 4) rfl))))))))), ?_⟩
    refine ⟨_, rfl, x, _, ways, rfl, T.s_WAYS _, trivial, _, rfl, ifF (by simp [isOne_mem hy]) ?_⟩
    refine ⟨_, rfl, x, _, signs, rfl, T.s_SIGNS _, trivial, _, rfl, ifF (by simp [isOne_mem hz]) ?_⟩
    refine ⟨_, rfl, _, _, _, _, _, rfl, .own _, T.I_Form.ty T.C_Form hf, kit_self, _, rfl, ifF rfl ?_⟩
    refine ⟨_, rfl, x, _, deeds, rfl, T.s_DEEDS _, trivial, _, rfl, ifF (by simp [isOne_mem hd]) ?_⟩
    refine ⟨_, rfl, _, rfl, x, T.c_Lane, dx, _, rfl, hx, T.C_Lane, T.n_Lane_way, by decide, ?_⟩
    refine ⟨_, rfl, _, rfl, x, T.c_Lane, dx, _, rfl, upd_same, T.C_Lane, T.n_Lane_sign, by show 1 < 1000; decide, ?_⟩
    refine ⟨_, rfl, _, rfl, x, T.c_Lane, dx, _, rfl, upd_same, T.C_Lane, T.n_Lane_shift, by show 2 < 1000; decide, ?_⟩
    refine ⟨_, rfl, _, rfl, x, T.c_Lane, dx, _, rfl, upd_same, T.C_Lane, T.n_Lane_deed, by show 3 < 1000; decide, ?_⟩
    show Q .non _
    rw [upd_upd, upd_upd, upd_upd]
    exact kn _
theorem mro_list {K : PySem.W.Frag} {C : Addr} (N : OwnN K C) : PySem.W.kitAny K (.ref C) [.type "list", .type "tuple"] = some false := by
  have h1 : PySem.W.kitOne K (.ref C) (.type "list") = some false := by
    have hm : PySem.W.kitMeta "list" = true := by decide +kernel
    have hs : PySem.W.subIn K (.ref C) (.type "list") = some false := N.li
    unfold PySem.W.kitOne PySem.W.kitCls
    simp [hm, hs]
  have h2 : PySem.W.kitOne K (.ref C) (.type "tuple") = some false := by
    have hm : PySem.W.kitMeta "tuple" = true := by decide +kernel
    have hs : PySem.W.subIn K (.ref C) (.type "tuple") = some false := N.tu
    unfold PySem.W.kitOne PySem.W.kitCls
    simp [hm, hs]
  unfold PySem.W.kitAny
  rw [h1]
  unfold PySem.W.kitAny
  rw [h2]
  rfl
theorem tyx_same {K : PySem.W.Frag} {H H' : Hp} {v : V} {t : Value} (s : Same H H') (h : TyX K H v t) : TyX K H' v t := by
  cases h with
  | base b =>
    cases b with
    | non => exact .base .non
    | bl x => exact .base (.bl x)
    | int x => exact .base (.int x)
    | str x => exact .base (.str x)
    | flt x => exact .base (.flt x)
    | lst e => exact .base (.lst (s _ _ e))
    | frz e => exact .base (.frz (s _ _ e))
    | tup e => exact .base (.tup (s _ _ e))
    | dK e => exact .base (.dK (s _ _ e))
    | dT e => exact .base (.dT (s _ _ e))
    | ins e c ha hn ht hm => exact .base (.ins (s _ _ e) c ha hn ht hm)
  | byt x => exact .byt x
  | set e => exact .set (s _ _ e)
  | kList e c => exact .kList e c
  | kTuple e c => exact .kTuple e c
  | kDict e c => exact .kDict e c
  | fTuple e => exact .fTuple (s _ _ e)
  | fDict e => exact .fDict (s _ _ e)
/-- whether a value is a list or a tuple -/
def spSeq (K : PySem.W.Frag) : Sp := fun vs H Q _ => ∃ (v : V) (t : Value) (r : Bool), vs = [v] ∧ TyX K H v t ∧ PySem.W.kitAny K t [.type "list", .type "tuple"] = some r ∧ ∀ H', Same H H' → Q (.bl r) H'
theorem ok_seq (T : Txt K mg) : FnOk P w K mg base CX0 1 T.a_is_sequence T.d_is_sequence ["value"] (spSeq K) := by
  refine T.F_is_sequence.ok sc_is_sequence (fun vs H Q E h => ?_) (fun cdv A outer s H vs Q E hr h => ?_)
  · obtain ⟨v, t, r, rfl, _⟩ := h
    rfl
  · obtain ⟨v, t, r, rfl, ty, kt, k⟩ := h
    have nd := sc_is_sequence.nd
    refine ⟨_, (pss_one (ps_ret (pe_callB call_isiT (by rfl) T.z_isinstance (by decide +kernel) (pa_cons (pv 0) (pa_cons (pe_tup (pa_cons (pe_bltn (v := .ty "list") (u := .type "list") (by rfl) T.z_list (by decide +kernel) (by exact rfl)) (pa_cons (pe_bltn (v := .ty "tuple") (u := .type "tuple") (by rfl) T.z_tuple (by decide +kernel) (by exact rfl)) pa_nil))) pa_nil))))), ?_⟩
    refine ⟨_, rfl, szL (Nat.le_of_ble_eq_true rfl), fun p np => ?_⟩
    have z : TyX K (upd H p (.tup [.ty "list", .ty "tuple"])) v t := tyx_same (same_new np) ty
    exact ⟨v, p, _, t, _, r, rfl, upd_same, .cons (.ty _) (.cons (.ty _) .nil), z, kt, k _ (same_new np)⟩
theorem kit_seq_list {K : PySem.W.Frag} : PySem.W.kitAny K (.type "list") [.type "list", .type "tuple"] = some true := by
  unfold PySem.W.kitAny
  rw [show PySem.W.kitOne K (.type "list") (.type "list") = some true from by simp [PySem.W.kitOne]]
theorem kit_seq_tup {K : PySem.W.Frag} : PySem.W.kitAny K (.type "tuple") [.type "list", .type "tuple"] = some true := by
  unfold PySem.W.kitAny
  rw [show PySem.W.kitOne K (.type "tuple") (.type "list") = some false from kit_ty (by decide +kernel)]
  unfold PySem.W.kitAny
  rw [show PySem.W.kitOne K (.type "tuple") (.type "tuple") = some true from by simp [PySem.W.kitOne]]
/-- what isinstance(x, C) says of things -/
def IsC (K : PySem.W.Frag) (C : Addr) (H : Hp) (v : V) (r : Bool) : Prop := ∃ t, TyX K H v t ∧ PySem.W.kitOne K t (.ref C) = some r
theorem IsC.same {K : PySem.W.Frag} {C : Addr} {H H' : Hp} {v : V} {r : Bool} (h : IsC K C H v r) (s : Same H H') : IsC K C H' v r := by
  obtain ⟨t, ty, k⟩ := h
  exact ⟨t, tyx_same s ty, k⟩
def spBlockI (K : PySem.W.Frag) (CB CF CL : Addr) : Sp := fun vs H Q _ => ∃ (x dx L : Addr) (f : V) (ls : List V), vs = [.ref x, f, .ref L] ∧ H x = some (.ins CB dx []) ∧ InsOf CF H f ∧ H L = some (.lst ls) ∧ 0 < ls.length ∧ ls.length ≤ 101 ∧ (∀ y ∈ ls, InsOf CL H y) ∧
  ∀ H' tp, Same H H' → H' tp = some (.tup ls) → Q .non (upd H' x (.ins CB dx (putF "lanes" (.ref tp) (putF "rounds" f []))))
theorem ok_blockI (T : Txt K mg) : FnOk P w K mg base CX0 2 T.a_Block___init__ T.d_Block___init__ ["self", "rounds", "lanes"] (spBlockI K T.c_Block T.c_Form T.c_Lane) := by
  have G_is_sequence : FnOk P w K mg base CX0 1 T.a_is_sequence T.d_is_sequence ["value"] (spSeq K) := ok_seq T
  refine T.F_Block___init__.ok sc_Block___init__ (fun vs H Q E h => ?_) (fun cdv A outer s H vs Q E hr h => ?_)
  · obtain ⟨x, dx, L, f, ls, rfl, _⟩ := h
    rfl
  · obtain ⟨x, dx, L, f, ls, rfl, hx, ⟨xf, dxf, fs, rfl, hf⟩, hL, l0, l1, hls, kn⟩ := h
    have nd := sc_Block___init__.nd
    refine ⟨_, (pss_cons (ps_if (pt_not (pt_val (pe_callB call_isi (by rfl) T.z_isinstance (by decide +kernel) (pa_cons (pv 1) (pa_cons (pe_glob rfl T.m_Form (rel_ref _)) pa_nil))))) (pss_one ps_never) pss_nil)
    (pss_cons (ps_if (PW.pt (pw_or (pt_not (pt_val (pe_call G_is_sequence (hr.mono (by first | decide | omega)) (by rfl) T.m_is_sequence T.k_is_sequence T.b_is_sequence .nil pass0 (pa_cons (pv 2) pa_nil)))) (pw_or1 (pt_cmpR op_eq (pe_callB call_len_seq (by rfl) T.z_len (by decide +kernel) (pa_cons (pv 2) pa_nil)) pe_int (nomark _))))) (pss_one ps_never) pss_nil)
    (pss_cons (ps_if (pt_not (pt_val (pe_callB (cr_all rfl) (by rfl) T.z_all (by decide +kernel) (pa_cons (pe_lc (own := [("lane", 3)]) (g := (gName 3)) (by rfl) nd (pi_list (pv 2)) (blkOk_by (N := ["self", "rounds", "lanes", "lane"]) (sc := defScope s_Block___init__) (own := [("lane", 3)]) (by decide +kernel)) (fun _ _ _ _ _ => by exact (pg_name (i := 3) nd rfl (Or.inl rfl))) (fun _ _ _ _ _ => by exact pts_nil) (fun _ _ _ _ _ => by exact (pe_callB (call_isiK (K := K) rfl) (by rfl) T.z_isinstance (by decide +kernel) (pa_cons (pv 3) (pa_cons (pe_glob rfl T.m_Lane (rel_ref _)) pa_nil))))) pa_nil)))) (pss_one ps_never) pss_nil)
    (pss_cons (ps_fld (pv 0) (pv 1) rfl)
    (pss_one (ps_fld (pv 0) (pe_callTy call_tuple_of (by rfl) T.z_tuple (by decide +kernel) (pa_cons (pv 2) pa_nil)) rfl)))))), ?_⟩
    refine ⟨_, rfl, _, _, _, _, _, rfl, .own _, T.I_Form.ty T.C_Form hf, kit_self, _, rfl, ifF rfl ?_⟩
    refine ⟨_, rfl, _, _, _, rfl, .base (.lst hL), kit_seq_list, fun H1 s1 => ?_⟩
    have hL1 := s1 _ _ hL
    refine ⟨_, rfl, ifF rfl ?_⟩
    have e0 : decide (V.int (ls.length : Nat) = V.int 0) = false := decide_eq_false (fun h => by injection h with h; omega)
    refine ⟨_, rfl, _, _, rfl, .inl (SqL.of hL1), rfl, _, rfl, ifF e0 ?_⟩
    refine ⟨_, rfl, L, rfl, ⟨_, SqL.of hL1⟩, fun D hD => ?_⟩
    refine lc_list (xs := ls) (fun i Hc => Hc D = some (.lst ((List.replicate i true).map V.bl)) ∧ Same H1 Hc) ⟨upd_same, same_new hD⟩ (fun i Hc _ hP => SqL.of (hP.2 _ _ hL1)) (fun i y Hc hy hP => ?_) (fun Hc hP => ?_)
    · obtain ⟨hDc, sc⟩ := hP
      obtain ⟨z, dz, gs, rfl, hz⟩ := hls y (List.mem_of_getElem? hy)
      have hn := (List.getElem?_eq_some_iff.mp hy).1
      refine ⟨rfl, _, rfl, _, _, _, _, _, rfl, .own _, T.I_Lane.ty T.C_Lane (sc _ _ (s1 _ _ hz)), kit_self, ?_⟩
      exact ⟨_, hDc, szl (by rw [List.length_map, List.length_replicate]; omega), by rw [upd_same, List.replicate_succ', List.map_append]; rfl, same_lst sc hD⟩
    · obtain ⟨hDc, sc⟩ := hP
      refine ⟨D, List.replicate ls.length true, rfl, SqL.of hDc, _, rfl, ifF (by simp) ?_⟩
      have sH := s1.trans sc
      refine ⟨_, rfl, _, rfl, x, T.c_Block, dx, _, rfl, sH _ _ hx, T.C_Block, T.n_Block_rounds, by decide, ?_⟩
      have nLx : L ≠ x := by
        rintro rfl
        rw [hx] at hL
        cases hL
      refine ⟨_, rfl, L, _, rfl, .inl ⟨SqL.of (by rw [upd_ne nLx]; exact sH _ _ hL), fun tp ntp => ?_⟩⟩
      have ntx : tp ≠ x := by
        rintro rfl
        rw [upd_same] at ntp
        cases ntp
      refine ⟨_, rfl, x, T.c_Block, dx, _, rfl, by rw [upd_ne (Ne.symm ntx)]; exact upd_same, T.C_Block, T.n_Block_lanes, by show 1 < 1000; decide, ?_⟩
      have ntp' : Hc tp = none := by rw [upd_ne ntx] at ntp; exact ntp
      have eh : upd (upd (upd Hc x (.ins T.c_Block dx (putF "rounds" (.ref xf) []))) tp (.tup ls)) x (.ins T.c_Block dx (putF "lanes" (.ref tp) (putF "rounds" (.ref xf) []))) = upd (upd Hc tp (.tup ls)) x (.ins T.c_Block dx (putF "lanes" (.ref tp) (putF "rounds" (.ref xf) []))) := by
        funext a
        by_cases ha : a = x
        · subst ha; rw [upd_same, upd_same]
        · rw [upd_ne ha, upd_ne ha]
          by_cases hb : a = tp
          · subst hb; rw [upd_same, upd_same]
          · rw [upd_ne hb, upd_ne hb, upd_ne ha]
      show Q .non _
      rw [eh]
      exact kn (upd Hc tp (.tup ls)) tp (sH.trans (same_new ntp')) upd_same

/-- the answers for a sequence's things, and what comes of them -/
def IsAll (K : PySem.W.Frag) (C : Addr) (H : Hp) : List V → List Bool → Prop
  | [], [] => True
  | v :: vs, r :: rs => IsC K C H v r ∧ IsAll K C H vs rs
  | _, _ => False
theorem IsAll.get {K : PySem.W.Frag} {C : Addr} {H : Hp} : ∀ {vs : List V} {rs : List Bool} {i : Nat} {v : V}, IsAll K C H vs rs → vs[i]? = some v → ∃ r, rs[i]? = some r ∧ IsC K C H v r
  | [], [], i, v, _, e => by simp at e
  | [], _ :: _, _, _, h, _ => h.elim
  | _ :: _, [], _, _, h, _ => h.elim
  | v :: vs, r :: rs, 0, w, h, e => by
    have : v = w := Option.some.inj e
    subst this
    exact ⟨r, rfl, h.1⟩
  | v :: vs, r :: rs, i + 1, w, h, e => by
    have e' := e
    simp only [List.getElem?_cons_succ] at e' ⊢
    exact h.2.get e'
theorem IsAll.length {K : PySem.W.Frag} {C : Addr} {H : Hp} : ∀ {vs : List V} {rs : List Bool}, IsAll K C H vs rs → vs.length = rs.length
  | [], [], _ => rfl
  | [], _ :: _, h => h.elim
  | _ :: _, [], h => h.elim
  | _ :: vs, _ :: rs, h => congrArg (· + 1) h.2.length
theorem szl' {n : Nat} (h : n ≤ 10000) : n < sizeLine := Nat.lt_of_le_of_lt h (by decide)
/-- what a plan holds: its blocks, and what was found out -/
def planF (tp d : Addr) : List (Str × V) := putF "found" (.ref d) (putF "blocks" (.ref tp) [])
theorem upd_mid {H : Hp} {x d : Addr} {o1 o2 o3 : HO} (ne : d ≠ x) : upd (upd (upd H x o1) d o2) x o3 = upd (upd H d o2) x o3 := by
  funext a
  by_cases h : a = x
  · subst h
    rw [upd_same, upd_same]
  · rw [upd_ne h, upd_ne h]
    by_cases g : a = d
    · subst g
      rw [upd_same, upd_same]
    · rw [upd_ne g, upd_ne g, upd_ne h]
/-- Plan(v): made of a list or tuple of blocks, or refused -/
def spPlanI (K : PySem.W.Frag) (CI CP CB : Addr) : Sp := fun vs H Q E => ∃ (x dx : Addr) (v : V), vs = [.ref x, v] ∧ H x = some (.ins CP dx []) ∧
  ((∃ (a : Addr) (xs : List V) (rs : List Bool), v = .ref a ∧ (H a = some (.lst xs) ∨ H a = some (.tup xs)) ∧ xs.length ≤ 1000 ∧ IsAll K CB H xs rs ∧
      (rs.all id = true → ∀ H' tp d, Same H H' → H' tp = some (.tup xs) → Q .non (upd H' x (.ins CP dx (planF tp d)))) ∧
      (rs.all id = false → ∀ H', Same H H' → E (.ref CI) none H')) ∨
   (∃ t, TyX K H v t ∧ PySem.W.kitAny K t [.type "list", .type "tuple"] = some false ∧ ∀ H', Same H H' → E (.ref CI) none H'))
theorem ok_planI (T : Txt K mg) : FnOk P w K mg base (L2.CX P w) 2 T.a_Plan___init__ T.d_Plan___init__ ["self", "blocks"] (spPlanI K T.c_InvalidPlan T.c_Plan T.c_Block) := by
  have G_is_sequence : FnOk P w K mg base CX0 1 T.a_is_sequence T.d_is_sequence ["value"] (spSeq K) := ok_seq T
  refine T.F_Plan___init__.ok sc_Plan___init__ (fun vs H Q E h => ?_) (fun cdv A outer s H vs Q E hr h => ?_)
  · obtain ⟨x, dx, v, rfl, _⟩ := h
    rfl
  · obtain ⟨x, dx, v, rfl, hx, hv⟩ := h
    have nd := sc_Plan___init__.nd
    refine ⟨_, (pss_cons (ps_if (PW.pt (pw_or (pt_not (pt_val (pe_call G_is_sequence (hr.mono (by first | decide | omega)) (by rfl) T.m_is_sequence T.k_is_sequence T.b_is_sequence .nil pass0 (pa_cons (pv 1) pa_nil)))) (pw_or1 (pt_not (pt_val (pe_callB (cr_all rfl) (by rfl) T.z_all (by decide +kernel) (pa_cons (pe_lc (own := [("block", 2)]) (g := (gName 2)) (by rfl) nd (pi_seqA (pv 1)) (blkOk_by (N := ["self", "blocks", "block"]) (sc := defScope s_Plan___init__) (own := [("block", 2)]) (by decide +kernel)) (fun _ _ _ _ _ => by exact (pg_name (i := 2) nd rfl (Or.inl rfl))) (fun _ _ _ _ _ => by exact pts_nil) (fun _ _ _ _ _ => by exact (pe_callB (call_isiK (K := K) rfl) (by rfl) T.z_isinstance (by decide +kernel) (pa_cons (pv 2) (pa_cons (pe_glob rfl T.m_Block (rel_ref _)) pa_nil))))) pa_nil))))))) (pss_one (ps_raise rfl (takes_of rfl rfl rfl rfl) (pmk_own0 PySem.F.excBase_ValueError T.q_InvalidPlan T.m_InvalidPlan T.k_InvalidPlan (raises_own T.r1_InvalidPlan T.r2_InvalidPlan) rfl))) pss_nil)
    (pss_cons (ps_fld (pv 0) (pe_callTy call_tuple_of (by rfl) T.z_tuple (by decide +kernel) (pa_cons (pv 1) pa_nil)) rfl)
    (pss_one (ps_fld (pv 0) pe_dnewK rfl)))), ?_⟩
    rcases hv with ⟨a, xs, rs, rfl, hseq, xl, hall, good, bad⟩ | ⟨t, ty, kt, bad⟩
    · have lx := hall.length
      have nax : a ≠ x := by
        rintro rfl
        rcases hseq with h | h <;> (rw [hx] at h; cases h)
      rcases hseq with ha | ha
      · refine ⟨_, rfl, _, _, _, rfl, .base (.lst ha), kit_seq_list, fun H1 s1 => ⟨_, rfl, ifF rfl ?_⟩⟩
        have ha1 := s1 _ _ ha
        refine ⟨_, rfl, a, rfl, .inl ⟨xs, SqL.of ha1, fun D hD => ?_⟩⟩
        refine lc_list (xs := xs) (fun i Hc => Hc D = some (.lst ((rs.take i).map V.bl)) ∧ Same H1 Hc) ⟨upd_same, same_new hD⟩ (fun i Hc _ hP => SqL.of (hP.2 _ _ ha1)) (fun i y Hc hy hP => ?_) (fun Hc hP => ?_)
        · obtain ⟨hDc, sc⟩ := hP
          obtain ⟨r, hr', t, ty, kt⟩ := hall.get hy
          have hn := (List.getElem?_eq_some_iff.mp hy).1
          refine ⟨rfl, _, rfl, _, _, _, _, _, rfl, .own _, tyx_same (s1.trans sc) ty, kt, ?_⟩
          exact ⟨_, hDc, szl' (by rw [List.length_map, List.length_take]; omega), by rw [upd_same, take_snoc hr', List.map_append]; rfl, same_lst sc hD⟩
        · obtain ⟨hDc, sc⟩ := hP
          rw [lx, List.take_length] at hDc
          have sH := s1.trans sc
          refine ⟨D, rs, rfl, SqL.of hDc, _, rfl, ?_⟩
          cases hr : rs.all id with
          | false => exact ifT rfl (bad hr _ sH)
          | true =>
            refine ifF rfl ?_
            refine ⟨_, rfl, a, _, rfl, .inl ⟨SqL.of (sH _ _ ha), fun tp ntp => ?_⟩⟩
            have ntx : tp ≠ x := ne_of_none' (sH _ _ hx) ntp
            refine ⟨_, rfl, x, T.c_Plan, dx, _, rfl, by rw [upd_ne (Ne.symm ntx)]; exact sH _ _ hx, T.C_Plan, T.n_Plan_blocks, by decide, ?_⟩
            refine fun d nd9 => ?_
            have nex : d ≠ x := fun e => by
              rw [e, upd_same] at nd9
              cases nd9
            rw [upd_ne nex] at nd9
            refine ⟨_, rfl, x, T.c_Plan, dx, _, rfl, by rw [upd_ne (Ne.symm nex)]; exact upd_same, T.C_Plan, T.n_Plan_found, by show 1 < 1000; decide, ?_⟩
            rw [upd_mid nex]
            exact good hr _ tp d ((sH.trans (same_new ntp)).trans (same_new nd9)) (same_new nd9 _ _ upd_same)
      · refine ⟨_, rfl, _, _, _, rfl, .base (.tup ha), kit_seq_tup, fun H1 s1 => ⟨_, rfl, ifF rfl ?_⟩⟩
        have ha1 := s1 _ _ ha
        refine ⟨_, rfl, a, rfl, .inr ⟨xs, SqT.of ha1, fun D hD => ?_⟩⟩
        refine lc_tup (xs := xs) (fun i Hc => Hc D = some (.lst ((rs.take i).map V.bl)) ∧ Same H1 Hc) ⟨upd_same, same_new hD⟩ (fun i Hc _ hP => SqT.of (hP.2 _ _ ha1)) (fun i y Hc hy hP => ?_) (fun Hc hP => ?_)
        · obtain ⟨hDc, sc⟩ := hP
          obtain ⟨r, hr', t, ty, kt⟩ := hall.get hy
          have hn := (List.getElem?_eq_some_iff.mp hy).1
          refine ⟨rfl, _, rfl, _, _, _, _, _, rfl, .own _, tyx_same (s1.trans sc) ty, kt, ?_⟩
          exact ⟨_, hDc, szl' (by rw [List.length_map, List.length_take]; omega), by rw [upd_same, take_snoc hr', List.map_append]; rfl, same_lst sc hD⟩
        · obtain ⟨hDc, sc⟩ := hP
          rw [lx, List.take_length] at hDc
          have sH := s1.trans sc
          refine ⟨D, rs, rfl, SqL.of hDc, _, rfl, ?_⟩
          cases hr : rs.all id with
          | false => exact ifT rfl (bad hr _ sH)
          | true =>
            refine ifF rfl ?_
            refine ⟨_, rfl, a, _, rfl, .inr ⟨SqT.of (sH _ _ ha), ?_⟩⟩
            refine ⟨_, rfl, x, T.c_Plan, dx, _, rfl, sH _ _ hx, T.C_Plan, T.n_Plan_blocks, by decide, ?_⟩
            refine fun d nd9 => ?_
            have nex : d ≠ x := fun e => by
              rw [e, upd_same] at nd9
              cases nd9
            rw [upd_ne nex] at nd9
            refine ⟨_, rfl, x, T.c_Plan, dx, _, rfl, by rw [upd_ne (Ne.symm nex)]; exact upd_same, T.C_Plan, T.n_Plan_found, by show 1 < 1000; decide, ?_⟩
            rw [upd_mid nex]
            exact good hr _ a d (sH.trans (same_new nd9)) (same_new nd9 _ _ (sH _ _ ha))
    · refine ⟨_, rfl, _, _, _, rfl, ty, kt, fun H1 s1 => ⟨_, rfl, ifT rfl (ifT rfl (bad _ s1))⟩⟩
/-- a list of blocks: made -/
def spPlanG (K : PySem.W.Frag) (CP CB : Addr) : Sp := fun vs H Q _ => ∃ (x dx a : Addr) (xs : List V), vs = [.ref x, .ref a] ∧ H x = some (.ins CP dx []) ∧ H a = some (.lst xs) ∧ xs.length ≤ 1000 ∧ (∀ y ∈ xs, InsOf CB H y) ∧
  ∀ H' tp d, Same H H' → H' tp = some (.tup xs) → Q .non (upd H' x (.ins CP dx (planF tp d)))
theorem ok_planG (T : Txt K mg) : FnOk P w K mg base CX0 2 T.a_Plan___init__ T.d_Plan___init__ ["self", "blocks"] (spPlanG K T.c_Plan T.c_Block) := by
  have G_is_sequence : FnOk P w K mg base CX0 1 T.a_is_sequence T.d_is_sequence ["value"] (spSeq K) := ok_seq T
  refine T.F_Plan___init__.ok sc_Plan___init__ (fun vs H Q E h => ?_) (fun cdv A outer s H vs Q E hr h => ?_)
  · obtain ⟨x, dx, a, xs, rfl, _⟩ := h
    rfl
  · obtain ⟨x, dx, a, xs, rfl, hx, ha, xl, hxs, good⟩ := h
    have nd := sc_Plan___init__.nd
    refine ⟨_, (pss_cons (ps_if (PW.pt (pw_or (pt_not (pt_val (pe_call G_is_sequence (hr.mono (by first | decide | omega)) (by rfl) T.m_is_sequence T.k_is_sequence T.b_is_sequence .nil pass0 (pa_cons (pv 1) pa_nil)))) (pw_or1 (pt_not (pt_val (pe_callB (cr_all rfl) (by rfl) T.z_all (by decide +kernel) (pa_cons (pe_lc (own := [("block", 2)]) (g := (gName 2)) (by rfl) nd (pi_list (pv 1)) (blkOk_by (N := ["self", "blocks", "block"]) (sc := defScope s_Plan___init__) (own := [("block", 2)]) (by decide +kernel)) (fun _ _ _ _ _ => by exact (pg_name (i := 2) nd rfl (Or.inl rfl))) (fun _ _ _ _ _ => by exact pts_nil) (fun _ _ _ _ _ => by exact (pe_callB (call_isiK (K := K) rfl) (by rfl) T.z_isinstance (by decide +kernel) (pa_cons (pv 2) (pa_cons (pe_glob rfl T.m_Block (rel_ref _)) pa_nil))))) pa_nil))))))) (pss_one ps_never) pss_nil)
    (pss_cons (ps_fld (pv 0) (pe_callTy call_tuple_of (by rfl) T.z_tuple (by decide +kernel) (pa_cons (pv 1) pa_nil)) rfl)
    (pss_one (ps_fld (pv 0) pe_dnewK rfl)))), ?_⟩
    refine ⟨_, rfl, _, _, _, rfl, .base (.lst ha), kit_seq_list, fun H1 s1 => ⟨_, rfl, ifF rfl ?_⟩⟩
    have ha1 := s1 _ _ ha
    refine ⟨_, rfl, a, rfl, ⟨xs, SqL.of ha1⟩, fun D hD => ?_⟩
    refine lc_list (xs := xs) (fun i Hc => Hc D = some (.lst ((List.replicate i true).map V.bl)) ∧ Same H1 Hc) ⟨upd_same, same_new hD⟩ (fun i Hc _ hP => SqL.of (hP.2 _ _ ha1)) (fun i y Hc hy hP => ?_) (fun Hc hP => ?_)
    · obtain ⟨hDc, sc⟩ := hP
      obtain ⟨z, dz, gs, rfl, hz⟩ := hxs y (List.mem_of_getElem? hy)
      have hn := (List.getElem?_eq_some_iff.mp hy).1
      refine ⟨rfl, _, rfl, _, _, _, _, _, rfl, .own _, T.I_Block.ty T.C_Block (sc _ _ (s1 _ _ hz)), kit_self, ?_⟩
      exact ⟨_, hDc, szl' (by rw [List.length_map, List.length_replicate]; omega), by rw [upd_same, List.replicate_succ', List.map_append]; rfl, same_lst sc hD⟩
    · obtain ⟨hDc, sc⟩ := hP
      have sH := s1.trans sc
      refine ⟨D, List.replicate xs.length true, rfl, SqL.of hDc, _, rfl, ifF (by simp) ?_⟩
      refine ⟨_, rfl, a, _, rfl, .inl ⟨SqL.of (sH _ _ ha), fun tp ntp => ?_⟩⟩
      have ntx : tp ≠ x := ne_of_none' (sH _ _ hx) ntp
      refine ⟨_, rfl, x, T.c_Plan, dx, _, rfl, by rw [upd_ne (Ne.symm ntx)]; exact sH _ _ hx, T.C_Plan, T.n_Plan_blocks, by decide, ?_⟩
      refine fun d nd9 => ?_
      have nex : d ≠ x := fun e => by
        rw [e, upd_same] at nd9
        cases nd9
      rw [upd_ne nex] at nd9
      refine ⟨_, rfl, x, T.c_Plan, dx, _, rfl, by rw [upd_ne (Ne.symm nex)]; exact upd_same, T.C_Plan, T.n_Plan_found, by show 1 < 1000; decide, ?_⟩
      rw [upd_mid nex]
      exact good _ tp d ((sH.trans (same_new ntp)).trans (same_new nd9)) (same_new nd9 _ _ upd_same)

theorem same_make {H H' : Hp} {x dx : Addr} {o1 o2 o3 : HO} (nx : H x = none) (ndx : H dx = none) (s : Same (upd (upd H dx o1) x o2) H') : Same H (upd H' x o3) := fun a o e => by
  rw [upd_ne (ne_of_none e nx)]
  refine s a o ?_
  rw [upd_ne (ne_of_none e nx), upd_ne (ne_of_none e ndx)]
  exact e
theorem same_made {H : Hp} {x dx : Addr} {o1 o2 o3 : HO} (nx : H x = none) (ndx : H dx = none) : Same H (upd (upd (upd H dx o1) x o2) x o3) := same_make nx ndx (Same.refl _)
theorem same_two {H : Hp} {x dx : Addr} {o1 o2 : HO} (nx : H x = none) (ndx : H dx = none) : Same H (upd (upd H dx o1) x o2) := fun a o e => by
  rw [upd_ne (ne_of_none e nx), upd_ne (ne_of_none e ndx)]
  exact e
def BlockI (CB CL : Addr) (H : Hp) (v : V) : Prop := ∃ x dx f tp ls, v = .ref x ∧ H x = some (.ins CB dx (putF "lanes" (.ref tp) (putF "rounds" f []))) ∧ H tp = some (.tup ls) ∧ 0 < ls.length ∧ ls.length ≤ 101 ∧ ∀ y ∈ ls, InsOf CL H y
def PlanI (CP CB CL : Addr) (H : Hp) (v : V) : Prop := ∃ x dx tp bs d, v = .ref x ∧ H x = some (.ins CP dx (planF tp d)) ∧ H tp = some (.tup bs) ∧ 0 < bs.length ∧ bs.length ≤ 100 ∧ ∀ y ∈ bs, BlockI CB CL H y
theorem BlockI.fz {CB CL : Addr} {H H' : Hp} {v : V} (h : BlockI CB CL H v) (k : Fz H H') : BlockI CB CL H' v := by
  obtain ⟨x, dx, f, tp, ls, e, hx, ht, l0, l1, q⟩ := h
  exact ⟨x, dx, f, tp, ls, e, k _ _ trivial hx, k _ _ trivial ht, l0, l1, fun y hy => (q y hy).fz k⟩
theorem PlanI.fz {CP CB CL : Addr} {H H' : Hp} {v : V} (h : PlanI CP CB CL H v) (k : Fz H H') : PlanI CP CB CL H' v := by
  obtain ⟨x, dx, tp, bs, d, e, hx, ht, l0, l1, q⟩ := h
  exact ⟨x, dx, tp, bs, d, e, k _ _ trivial hx, k _ _ trivial ht, l0, l1, fun y hy => (q y hy).fz k⟩
theorem BlockI.ins {CB CL : Addr} {H : Hp} {v : V} (h : BlockI CB CL H v) : InsOf CB H v := by
  obtain ⟨x, dx, f, tp, ls, e, hx, _⟩ := h
  exact ⟨x, dx, _, e, hx⟩
def spLaneOf (CL : Addr) : Sp := fun vs H Q _ => ∃ v, vs = [v] ∧ LaneD H v ∧ ∀ u H', InsOf CL H' u → Same H H' → Q u H'
theorem ok_lane_of (T : Txt K mg) : FnOk P w K mg base CX0 4 T.a__law_lane_of T.d__law_lane_of ["_law_lane_here"] (spLaneOf T.c_Lane) := by
  have GI_Form : FnOk P w K mg base CX0 2 T.a_Form___init__ T.d_Form___init__ ["self", "times", "plus", "by"] (spFormI T.c_Form) := ok_formI T
  have GI_Lane : FnOk P w K mg base CX0 2 T.a_Lane___init__ T.d_Lane___init__ ["self", "way", "sign", "shift", "deed"] (spLaneI T.c_Lane T.c_Form) := ok_laneI T
  refine T.F__law_lane_of.ok sc__law_lane_of (fun vs H Q E h => ?_) (fun cdv A outer s H vs Q E hr h => ?_)
  · obtain ⟨v, rfl, _⟩ := h
    rfl
  · obtain ⟨v, rfl, ⟨p, y, z, f, d, rfl, hp, hy, hz, hd, ⟨pf, t, q, c, rfl, hpf, c0, c1⟩⟩, k⟩ := h
    have nd := sc__law_lane_of.nd
    refine ⟨_, (pss_one (ps_ret (pe_make T.M_Lane GI_Lane (hr.mono (by first | decide | omega)) (by rfl) T.m_Lane T.b_Lane___init__ .nil pass0 (pa_cons (pe_ix ix_tup (pv 0) pe_int (fun _ _ => rfl)) (pa_cons (pe_ix ix_tup (pv 0) pe_int (fun _ _ => rfl)) (pa_cons (pe_make T.M_Form GI_Form (hr.mono (by first | decide | omega)) (by rfl) T.m_Form T.b_Form___init__ .nil pass0 (pa_cons (pe_ix ix_tup (pe_ix ix_tup (pv 0) pe_int (fun _ _ => rfl)) pe_int (fun _ _ => rfl)) (pa_cons (pe_ix ix_tup (pe_ix ix_tup (pv 0) pe_int (fun _ _ => rfl)) pe_int (fun _ _ => rfl)) (pa_cons (pe_ix ix_tup (pe_ix ix_tup (pv 0) pe_int (fun _ _ => rfl)) pe_int (fun _ _ => rfl)) pa_nil)))) (pa_cons (pe_ix ix_tup (pv 0) pe_int (fun _ _ => rfl)) pa_nil))))))), ?_⟩
    refine ⟨_, rfl, _, _, _, _, rfl, rfl, SqT.of hp, rfl, ?_⟩
    refine ⟨_, rfl, _, _, _, _, rfl, rfl, SqT.of hp, rfl, ?_⟩
    refine ⟨_, rfl, _, _, _, _, rfl, rfl, SqT.of hp, rfl, _, _, _, _, rfl, rfl, SqT.of hpf, rfl, ?_⟩
    refine ⟨_, rfl, _, _, _, _, rfl, rfl, SqT.of hp, rfl, _, _, _, _, rfl, rfl, SqT.of hpf, rfl, ?_⟩
    refine ⟨_, rfl, _, _, _, _, rfl, rfl, SqT.of hp, rfl, _, _, _, _, rfl, rfl, SqT.of hpf, rfl, ?_⟩
    refine fun x dx nx ndx ne => ⟨x, dx, t, q, c, rfl, upd_same, c0, fun fs => ⟨rfl, ?_⟩⟩
    have s1 := same_made (o1 := .own x) (o2 := .ins T.c_Form dx []) (o3 := .ins T.c_Form dx fs) nx ndx
    have hx : upd (upd (upd H dx (.own x)) x (.ins T.c_Form dx [])) x (.ins T.c_Form dx fs) x = some (.ins T.c_Form dx fs) := upd_same
    generalize upd (upd (upd H dx (.own x)) x (.ins T.c_Form dx [])) x (.ins T.c_Form dx fs) = H1 at s1 hx
    refine ⟨_, rfl, _, _, _, _, rfl, rfl, SqT.of (s1 _ _ hp), rfl, ?_⟩
    refine fun x2 dx2 nx2 ndx2 ne2 => ⟨x2, dx2, y, z, d, _, rfl, upd_same, hy, hz, hd, ⟨x, dx, fs, rfl, same_two nx2 ndx2 _ _ hx⟩, fun fs2 => ⟨rfl, ?_⟩⟩
    exact k _ _ ⟨x2, dx2, fs2, rfl, upd_same⟩ (s1.trans (same_made nx2 ndx2))
def spPlanOf (CP CB CL : Addr) : Sp := fun vs H Q _ => ∃ b A, vs = [.ref A] ∧ PlanD b H A ∧ ∀ u H', PlanI CP CB CL H' u → Same H H' → Q u H'
theorem ok_plan_of (T : Txt K mg) : FnOk P w K mg base CX0 5 T.a__law_plan_of T.d__law_plan_of ["_law_plan_here"] (spPlanOf T.c_Plan T.c_Block T.c_Lane) := by
  have GI_Form : FnOk P w K mg base CX0 2 T.a_Form___init__ T.d_Form___init__ ["self", "times", "plus", "by"] (spFormI T.c_Form) := ok_formI T
  have GI_Block : FnOk P w K mg base CX0 2 T.a_Block___init__ T.d_Block___init__ ["self", "rounds", "lanes"] (spBlockI K T.c_Block T.c_Form T.c_Lane) := ok_blockI T
  have GI_Plan : FnOk P w K mg base CX0 2 T.a_Plan___init__ T.d_Plan___init__ ["self", "blocks"] (spPlanG K T.c_Plan T.c_Block) := ok_planG T
  have G__law_lane_of : FnOk P w K mg base CX0 4 T.a__law_lane_of T.d__law_lane_of ["_law_lane_here"] (spLaneOf T.c_Lane) := ok_lane_of T
  refine T.F__law_plan_of.ok sc__law_plan_of (fun vs H Q E h => ?_) (fun cdv A outer s H vs Q E hr h => ?_)
  · obtain ⟨b, A0, rfl, _⟩ := h
    rfl
  · obtain ⟨b, A0, rfl, ⟨nA, xs, hA, l0, l1, hxs⟩, k⟩ := h
    have nd := sc__law_plan_of.nd
    refine ⟨_, (pss_cons (ps_set (i := 1) nd rfl (Or.inl rfl) (pe_lst pa_nil))
    (pss_cons (ps_for PassesOwn.never rfl (pi_list (pv 0)) (pg_tup rfl (pgs_cons (pg_name (i := 2) nd rfl (Or.inl rfl)) (pgs_cons (pg_name (i := 3) nd rfl (Or.inl rfl)) pgs_nil)))
    (pss_one (ps_expr (pe_bm PySem.F.plainAttrs_list PySem.F.slot_list_append PySem.F.type_list_append mt_append (pv 1) (pa_cons (pe_make T.M_Block GI_Block (hr.mono (by first | decide | omega)) (by rfl) T.m_Block T.b_Block___init__ .nil pass0 (pa_cons (pe_make T.M_Form GI_Form (hr.mono (by first | decide | omega)) (by rfl) T.m_Form T.b_Form___init__ .nil pass0 (pa_cons (pe_ix ix_tup (pv 2) pe_int (fun _ _ => rfl)) (pa_cons (pe_ix ix_tup (pv 2) pe_int (fun _ _ => rfl)) (pa_cons (pe_ix ix_tup (pv 2) pe_int (fun _ _ => rfl)) pa_nil)))) (pa_cons (pe_lc (own := [("_law_lane_here", 4)]) (g := (gName 4)) (by rfl) nd (pi_list (pv 3)) (blkOk_by (N := ["_law_plan_here", "_law_found", "_law_rounds", "_law_lanes", "_law_lane_here"]) (sc := defScope s__law_plan_of) (own := [("_law_lane_here", 4)]) (by decide +kernel)) (fun _ _ _ _ _ => by exact (pg_name (i := 4) nd rfl (Or.inl rfl))) (fun _ _ _ _ _ => by exact pts_nil) (fun _ _ _ _ _ => by exact (pe_call G__law_lane_of (hr.mono (by first | decide | omega)) (by rfl) T.m__law_lane_of T.k__law_lane_of T.b__law_lane_of .nil pass0 (pa_cons (pv 4) pa_nil)))) pa_nil))) pa_nil)))))
    (pss_one (ps_ret (pe_make T.M_Plan GI_Plan (hr.mono (by first | decide | omega)) (by rfl) T.m_Plan T.b_Plan___init__ .nil pass0 (pa_cons (pv 1) pa_nil)))))), ?_⟩
    refine ⟨szL (Nat.le_of_ble_eq_true rfl), fun F nF => ?_⟩
    refine ⟨_, rfl, A0, rfl, ⟨_, SqL.of (same_new nF _ _ hA)⟩, for_list (xs := xs) (fun i σ Hc => ∃ y2 y3 y4 ys, σ = [some (.ref A0), some (.ref F), y2, y3, y4] ∧ Hc F = some (.lst ys) ∧ ys.length = i ∧ (∀ y ∈ ys, BlockI T.c_Block T.c_Lane Hc y) ∧ Same H Hc)
      ⟨none, none, none, [], rfl, upd_same, rfl, (fun y h => nomatch h), same_new nF⟩ (fun i σ Hc _ hP => ?_) (fun i x σ Hc hx hP => ?_) (fun σ Hc hP => ?_)⟩
    · obtain ⟨_, _, _, _, _, _, _, _, sc⟩ := hP
      exact SqL.of (sc _ _ hA)
    · obtain ⟨y2, y3, y4, ys, rfl, hF, hl, hys, sc⟩ := hP
      obtain ⟨p, f, L, ls, rfl, hp, ⟨pf, t, q, c, rfl, hpf, c0, c1⟩, n1, n2, hL, ll0, ll1, hls⟩ := (hxs x (List.mem_of_getElem? hx)).same sc
      refine ⟨p, _, rfl, SqT.of hp, rfl, _, _, rfl, _, _, rfl, rfl, ?_⟩
      refine ⟨_, rfl, .inl ⟨rfl, _, SqL.of hF⟩, ?_⟩
      refine ⟨_, rfl, _, _, _, _, rfl, rfl, SqT.of hpf, rfl, ?_⟩
      refine ⟨_, rfl, _, _, _, _, rfl, rfl, SqT.of hpf, rfl, ?_⟩
      refine ⟨_, rfl, _, _, _, _, rfl, rfl, SqT.of hpf, rfl, ?_⟩
      refine fun x1 dx1 nx1 ndx1 ne1 => ⟨x1, dx1, t, q, c, rfl, upd_same, c0, fun fs => ⟨rfl, ?_⟩⟩
      have s1 := same_made (o1 := .own x1) (o2 := .ins T.c_Form dx1 []) (o3 := .ins T.c_Form dx1 fs) nx1 ndx1
      have hx1 : upd (upd (upd Hc dx1 (.own x1)) x1 (.ins T.c_Form dx1 [])) x1 (.ins T.c_Form dx1 fs) x1 = some (.ins T.c_Form dx1 fs) := upd_same
      generalize upd (upd (upd Hc dx1 (.own x1)) x1 (.ins T.c_Form dx1 [])) x1 (.ins T.c_Form dx1 fs) = H1 at s1 hx1
      refine ⟨_, rfl, L, rfl, ⟨_, SqL.of (s1 _ _ hL)⟩, fun D hD => ?_⟩
      refine lc_list (xs := ls) (fun i Hd => ∃ us, Hd D = some (.lst us) ∧ us.length = i ∧ (∀ u ∈ us, InsOf T.c_Lane Hd u) ∧ Same H1 Hd) ⟨[], upd_same, rfl, (fun y h => nomatch h), same_new hD⟩ (fun i Hd _ hP => ?_) (fun i y Hd hy hP => ?_) (fun Hd hP => ?_)
      · obtain ⟨_, _, _, _, sd⟩ := hP
        exact SqL.of (sd _ _ (s1 _ _ hL))
      · obtain ⟨us, hDd, hul, hus, sd⟩ := hP
        have hn := (List.getElem?_eq_some_iff.mp hy).1
        refine ⟨rfl, _, rfl, y, rfl, (hls y (List.mem_of_getElem? hy)).fz (Fz.of_same (s1.trans sd)), fun u H2 hu s2 => ?_⟩
        have hD2 := s2 _ _ hDd
        refine ⟨us, hD2, szl' (by omega), us ++ [u], upd_same, by rw [List.length_append, hul]; rfl, fun z hz => ?_, same_lst (sd.trans s2) hD⟩
        have zz : Fz H2 (upd H2 D (.lst (us ++ [u]))) := Fz.lst hD2
        rcases List.mem_append.mp hz with h | h
        · exact ((hus z h).fz (Fz.of_same s2)).fz zz
        · rw [List.mem_singleton] at h
          subst h
          exact hu.fz zz
      · obtain ⟨us, hDd, hul, hus, sd⟩ := hP
        refine fun x2 dx2 nx2 ndx2 ne2 => ⟨x2, dx2, D, _, us, rfl, upd_same, ⟨x1, dx1, fs, rfl, same_two nx2 ndx2 _ _ (sd _ _ hx1)⟩, same_two nx2 ndx2 _ _ hDd, by omega, by omega, fun y hy => (hus y hy).fz (Fz.of_same (same_two nx2 ndx2)), fun H2 tp s2 htp => ⟨rfl, ?_⟩⟩
        have hx2 : H2 x2 = some (.ins T.c_Block dx2 []) := s2 _ _ upd_same
        have s3 : Same Hd (upd H2 x2 (.ins T.c_Block dx2 (putF "lanes" (.ref tp) (putF "rounds" (.ref x1) [])))) := same_make nx2 ndx2 s2
        have ntx : tp ≠ x2 := by
          rintro rfl
          rw [hx2] at htp
          cases htp
        have htp3 : upd H2 x2 (.ins T.c_Block dx2 (putF "lanes" (.ref tp) (putF "rounds" (.ref x1) []))) tp = some (.tup us) := by
          rw [upd_ne ntx]
          exact htp
        have hb : upd H2 x2 (.ins T.c_Block dx2 (putF "lanes" (.ref tp) (putF "rounds" (.ref x1) []))) x2 = some (.ins T.c_Block dx2 (putF "lanes" (.ref tp) (putF "rounds" (.ref x1) []))) := upd_same
        generalize upd H2 x2 (.ins T.c_Block dx2 (putF "lanes" (.ref tp) (putF "rounds" (.ref x1) []))) = H3 at s3 htp3 hb
        have sc3 := (s1.trans sd).trans s3
        have hF3 := sc3 _ _ hF
        have hn := (List.getElem?_eq_some_iff.mp hx).1
        refine ⟨F, ys, _, rfl, rfl, hF3, szl' (by omega), ?_⟩
        have zz : Fz H3 (upd H3 F (.lst (ys ++ [.ref x2]))) := Fz.lst hF3
        refine ⟨_, _, _, ys ++ [.ref x2], rfl, upd_same, by rw [List.length_append, hl]; rfl, fun y hy => ?_, same_lst (sc.trans sc3) nF⟩
        rcases List.mem_append.mp hy with h | h
        · exact ((hys y h).fz (Fz.of_same sc3)).fz zz
        · rw [List.mem_singleton] at h
          subst h
          exact ⟨x2, dx2, _, tp, us, rfl, zz _ _ trivial hb, zz _ _ trivial htp3, by omega, by omega, fun y hy => ((hus y hy).fz (Fz.of_same s3)).fz zz⟩
    · obtain ⟨y2, y3, y4, ys, rfl, hF, hl, hys, sc⟩ := hP
      refine ⟨_, rfl, fun x dx nx ndx ne => ⟨x, dx, F, ys, rfl, upd_same, same_two nx ndx _ _ hF, by omega, fun y hy => ((hys y hy).fz (Fz.of_same (same_two nx ndx))).ins, fun H2 tp d s2 htp => ⟨rfl, ?_⟩⟩⟩
      have hx2 : H2 x = some (.ins T.c_Plan dx []) := s2 _ _ upd_same
      have ntx : tp ≠ x := by
        rintro rfl
        rw [hx2] at htp
        cases htp
      have s3 : Same Hc (upd H2 x (.ins T.c_Plan dx (planF tp d))) := same_make nx ndx s2
      exact k _ _ ⟨x, dx, tp, ys, d, rfl, upd_same, by rw [upd_ne ntx]; exact htp, by omega, by omega, fun y hy => (hys y hy).fz (Fz.of_same s3)⟩ (sc.trans s3)

def rIsN (K : PySem.W.Frag) (a : Addr) (cls : Value) (d : Option Addr) (C : Addr) : List V → Hp → VK → Prop := fun xs H Q => ∃ (c : V) (cv : Value) (r : Bool), xs = [.ref a, c] ∧ ClsV c cv ∧ cls = .ref C ∧ d = none ∧ PySem.W.kitOne K (.ref C) cv = some r ∧ Q (.bl r) H
theorem call_isN {X : Cx} {a C : Addr} {cls : Value} {d : Option Addr} {oe : Obj} {pn : List (Addr × Obj)} (T : ExcC X.K C) (hz : Zc cls d oe) (hf : ∃ vs, oe.data = .fields vs) : CallR (X.suite a ((a, oe) :: pn)) (.builtin "isinstance") (rIsN X.K a cls d C) := by
  intro pins s σ H xs us Q I r h
  obtain ⟨c, cv, b, rfl, kc, ec, ed, e, q⟩ := h
  subst ec
  subst ed
  exact call_isE T hz hf pins s σ H _ us Q I r ⟨c, cv, b, rfl, fun u hu => kc.eq hu, e, q⟩
theorem IsAll.same {K : PySem.W.Frag} {C : Addr} {H H' : Hp} (s : Same H H') : ∀ {vs : List V} {rs : List Bool}, IsAll K C H vs rs → IsAll K C H' vs rs
  | [], [], _ => trivial
  | [], _ :: _, h => h.elim
  | _ :: _, [], h => h.elim
  | _ :: _, _ :: _, h => ⟨h.1.same s, IsAll.same s h.2⟩
/-- whether a value is refused -/
def spRef (K : PySem.W.Frag) (CB : Addr) : Sp := fun vs H Q _ => ∃ (v : V), vs = [v] ∧
  ((∃ (a : Addr) (xs : List V) (rs : List Bool), v = .ref a ∧ (H a = some (.lst xs) ∨ H a = some (.tup xs)) ∧ xs.length ≤ 1000 ∧ IsAll K CB H xs rs ∧ ∀ H', Same H H' → Q (.bl (!rs.all id)) H') ∨
   (∃ t, TyX K H v t ∧ PySem.W.kitAny K t [.type "list", .type "tuple"] = some false ∧ ∀ H', Same H H' → Q (.bl true) H'))
def t_suite (K : PySem.W.Frag) (CI CR CB : Addr) : Addr → Value → Option Addr → TS := fun a cls d =>
  tAsg (tAndV (tCB (rIsN K a cls d CI) (tCons (tVar 2) (tCons (tC (.ref CR)) tNil))) (tNotV (tCB (rIsN K a cls d CI) (tCons (tVar 2) (tCons (tC (.ref CB)) tNil))))) (gName 1)
def t_body (K : PySem.W.Frag) (CI CP CB : Addr) : WX → TS := fun W => tDrop (tMakeS CP (spPlanI K CI CP CB) (WE W) (tCons (tVar 0) tNil))
theorem ok_is_refused (T : Txt K mg) : FnOk P w K mg base CX0 6 T.a__law_is_refused T.d__law_is_refused ["_law_value"] (spRef K T.c_Block) := by
  have GI : FnOk P w K mg base (L2.CX P w) 2 T.a_Plan___init__ T.d_Plan___init__ ["self", "blocks"] (spPlanI K T.c_InvalidPlan T.c_Plan T.c_Block) := ok_planI T
  refine T.F__law_is_refused.ok sc__law_is_refused (fun vs H Q E h => ?_) (fun cdv A outer s H vs Q E hr h => ?_)
  · obtain ⟨v, rfl, _⟩ := h
    rfl
  · obtain ⟨v, rfl, hv⟩ := h
    have nd := sc__law_is_refused.nd
    refine ⟨_, pss_cons (ps_set (i := 1) nd rfl (Or.inl rfl) pe_bl)
      (pss_cons (ps_try_as (i := 2) (tb := t_body K T.c_InvalidPlan T.c_Plan T.c_Block) (ts := t_suite K T.c_InvalidPlan T.c_RingError T.c_InvalidBlock) (Wout := fun _ _ _ _ => False) rfl rfl nd rfl rfl ⟨rfl, by decide, Or.inl T.m_InvalidPlan⟩ takes0
        (fun W pn xe tk _ => pss_one (ps_expr (by exact (pe_makeS T.M_Plan GI (hr.mono (by decide)) rfl T.m_Plan T.b_Plan___init__ tk (by exact (pa_cons (pv 0) pa_nil))))))
        (fun a oe cls d pn hz hf => pss_one (ps_set (i := 1) nd rfl (Or.inl rfl) (by exact (pe_and (pe_callB (call_isN T.E_InvalidPlan hz hf) (by rfl) T.z_isinstance (by decide +kernel) (pa_cons (pv 2) (pa_cons (pe_glob rfl T.m_RingError (rel_ref _)) pa_nil)))
          (pe_one (pe_not (pe_callB (call_isN T.E_InvalidPlan hz hf) (by rfl) T.z_isinstance (by decide +kernel) (pa_cons (pv 2) (pa_cons (pe_glob rfl T.m_InvalidBlock (rel_ref _)) pa_nil))))))))))
      (pss_one (ps_ret (pv 1)))), ?_⟩
    refine ⟨_, rfl, ?_⟩
    refine fun x dx nx ndx ne => ?_
    have sm : Same H (upd (upd H dx (.own x)) x (.ins T.c_Plan dx [])) := same_two nx ndx
    rcases hv with ⟨a, xs, rs, rfl, hseq, xl, hall, q⟩ | ⟨t, ty, kt, q⟩
    · refine ⟨x, dx, _, rfl, upd_same, .inl ⟨a, xs, rs, rfl, hseq.imp (sm _ _) (sm _ _), xl, hall.same sm, fun hr H' tp d s' htp => ⟨rfl, ?_⟩, fun hr H' s' => ?_⟩⟩
      · have z := q _ (same_make (o3 := .ins T.c_Plan dx (planF tp d)) nx ndx s')
        rw [hr] at z
        exact ⟨_, rfl, z⟩
      · have z := q _ (sm.trans s')
        rw [hr] at z
        refine ⟨true, T.e_InvalidPlan, fun _ a' ha => ?_, fun q => Bool.noConfusion q⟩
        refine ⟨_, rfl, _, _, true, rfl, .own _, rfl, rfl, T.kit_InvalidPlan_RingError, _, rfl, ifT rfl ?_⟩
        refine ⟨_, rfl, _, _, false, rfl, .own _, rfl, rfl, T.kit_InvalidPlan_InvalidBlock, _, rfl, ?_⟩
        exact ⟨_, rfl, z⟩
    · refine ⟨x, dx, _, rfl, upd_same, .inr ⟨t, tyx_same sm ty, kt, fun H' s' => ?_⟩⟩
      have z := q _ (sm.trans s')
      refine ⟨true, T.e_InvalidPlan, fun _ a' ha => ?_, fun q => Bool.noConfusion q⟩
      refine ⟨_, rfl, _, _, true, rfl, .own _, rfl, rfl, T.kit_InvalidPlan_RingError, _, rfl, ifT rfl ?_⟩
      refine ⟨_, rfl, _, _, false, rfl, .own _, rfl, rfl, T.kit_InvalidPlan_InvalidBlock, _, rfl, ?_⟩
      exact ⟨_, rfl, z⟩

/-- values told by their own shape and that of their things -/
def Sh2 (b : Addr) (H : Hp) : V → Prop
  | .ref a => a ≠ b ∧ ∃ xs, (H a = some (.lst xs) ∨ H a = some (.tup xs)) ∧ xs.length ≤ 100 ∧ ∀ x ∈ xs, Sh b H x
  | v => Sh b H v
theorem Sh2.sh {b : Addr} {H : Hp} {v : V} (h : Sh2 b H v) : Sh b H v := by
  cases v with
  | ref a =>
    obtain ⟨n, xs, e | e, _⟩ := h
    · exact ⟨n, .inl ⟨xs, e⟩⟩
    · exact ⟨n, .inr ⟨xs, e⟩⟩
  | _ => exact h
theorem Sh2.but {b : Addr} {H H' : Hp} {v : V} (h : Sh2 b H v) (k : But b H H') : Sh2 b H' v := by
  cases v with
  | ref a =>
    obtain ⟨n, xs, e, l, q⟩ := h
    exact ⟨n, xs, e.imp (k _ _ n) (k _ _ n), l, fun x hx => (q x hx).but k⟩
  | _ => exact h
def spAny (d : Nat) : Sp := fun vs H Q _ => ∃ (b : Addr), vs = [.ref b, .int d] ∧ Box H b ∧ ∀ (v : V) (H' : Hp), Sh2 b H' v → Box H' b → But b H H' → Q v H'
theorem none_ok {f : Addr} {fd : FuncData} {ps : List Str} {k : Nat} : FnOk P w K mg base CX0 k f fd ps (fun _ _ _ _ => False) := ⟨fun _ _ _ _ h => h.elim, fun _ _ _ _ _ _ _ _ _ _ _ _ _ h => h.elim⟩
theorem any_step (T : Txt K mg) (d k : Nat) (hk : 2 ≤ k) (sp : Sp) (G__law_any : FnOk P w K mg base CX0 k T.a__law_any T.d__law_any ["_law_box_here", "_law_deep"] sp)
    (hsp : ∀ d', d = d' + 1 → sp = spAny d') : FnOk P w K mg base CX0 (k + 1) T.a__law_any T.d__law_any ["_law_box_here", "_law_deep"] (spAny d) := by
  have G__law_take : FnOk P w K mg base CX0 1 T.a__law_take T.d__law_take ["_law_box_here", "_law_many"] spTake := ok_take T
  have G__law_pick : FnOk P w K mg base CX0 2 T.a__law_pick T.d__law_pick ["_law_box_here", "_law_some"] spPick := ok_pick T
  refine T.F__law_any.ok sc__law_any (fun vs H Q E h => ?_) (fun cdv A outer s H vs Q E hr h => ?_)
  · obtain ⟨b, rfl, _⟩ := h
    rfl
  · obtain ⟨b, rfl, hB, k⟩ := h
    have nd := sc__law_any.nd
    have hr2 : Room 2 _ := hr.mono hk
    refine ⟨_, (pss_cons (ps_set (i := 2) nd rfl (Or.inl rfl) (pe_call G__law_take (hr.mono (by first | decide | omega)) (by rfl) T.m__law_take T.k__law_take T.b__law_take .nil pass0 (pa_cons (pv 0) (pa_cons pe_int pa_nil))))
    (pss_cons (ps_if (PW.pt (pw_and (pt_cmpR op_lt (pv 2) pe_int (nomark _)) (pw_and1 (pt_cmpR op_gt (pv 1) pe_int (nomark _))))) (pss_cons (ps_setLc (i := 3) (own := [("_law_k", 4)]) (g := (gName 4)) (by rfl) nd rfl rfl (sw_true rfl rfl rfl (by decide +kernel)) (pi_range1 (by rfl) T.z_range (pa_cons (pe_call G__law_take (hr.mono (by first | decide | omega)) (by rfl) T.m__law_take T.k__law_take T.b__law_take .nil pass0 (pa_cons (pv 0) (pa_cons pe_int pa_nil))) pa_nil)) (blkOk_by (N := ["_law_box_here", "_law_deep", "_law_form_here", "_law_some", "_law_k", "_law_words", "_law_plain"]) (sc := defScope s__law_any) (own := [("_law_k", 4)]) (by decide +kernel)) (fun _ _ _ _ _ => by exact (pg_name (i := 4) nd rfl (Or.inl rfl))) (fun _ _ _ _ _ => by exact pts_nil) (fun _ _ _ _ _ => by exact (pe_call G__law_any (hr.mono (by first | decide | omega)) (by rfl) T.m__law_any T.k__law_any T.b__law_any .nil pass0 (pa_cons (pv 0) (pa_cons (pe_op op_sub (pv 1) pe_int) pa_nil)))))
    (pss_one (ps_ret (pe_ifExp (pt_cmpR op_lt (pv 2) pe_int (nomark _)) (pv 3) (pe_callTy call_tuple_of (by rfl) T.z_tuple (by decide +kernel) (pa_cons (pv 3) pa_nil)))))) pss_nil)
    (pss_cons (ps_set (i := 5) nd rfl (Or.inl rfl) (pe_lst (pa_cons pe_str (pa_cons pe_str (pa_cons pe_str (pa_cons pe_str (pa_cons pe_str (pa_cons pe_str (pa_cons pe_str (pa_cons pe_str (pa_cons pe_str (pa_cons pe_str (pa_cons pe_str (pa_cons pe_str (pa_cons pe_str (pa_cons pe_str (pa_cons pe_str pa_nil)))))))))))))))))
    (pss_cons (ps_set (i := 6) nd rfl (Or.inl rfl) (pe_lst (pa_cons pe_non (pa_cons pe_bl (pa_cons pe_bl (pa_cons pe_int (pa_cons pe_int (pa_cons pe_int (pa_cons (pe_op op_sub pe_int pe_int) (pa_cons (pe_op op_sub (pe_op op_pow pe_int pe_int) pe_int) (pa_cons (pe_lst (pa_cons pe_str pa_nil)) (pa_cons (pe_tup (pa_cons pe_int (pa_cons pe_int pa_nil))) (pa_cons pe_int pa_nil)))))))))))))
    (pss_one (ps_ret (pe_ifExp (pt_cmpR op_lt (pv 2) pe_int (nomark _)) (pe_call G__law_pick (hr.mono (by first | decide | omega)) (by rfl) T.m__law_pick T.k__law_pick T.b__law_pick .nil pass0 (pa_cons (pv 0) (pa_cons (pv 5) pa_nil))) (pe_call G__law_pick (hr.mono (by first | decide | omega)) (by rfl) T.m__law_pick T.k__law_pick T.b__law_pick .nil pass0 (pa_cons (pv 0) (pa_cons (pv 6) pa_nil)))))))))), ?_⟩
    refine ⟨_, rfl, b, 14, rfl, hB, by decide, by decide, fun r H1 r0 r1 B1 k1 => ?_⟩
    refine ⟨_, rfl, _, _, rfl, rfl, _, rfl, ifB (fun e1 => ⟨_, rfl, _, _, rfl, rfl, _, rfl, ifB (fun e2 => ?rec) (fun _ => ?t1)⟩) (fun _ => ?t2)⟩
    case rec =>
        have e2 := of_decide_eq_true e2
        obtain ⟨d', rfl⟩ : ∃ d', d = d' + 1 := ⟨d - 1, by omega⟩
        have esp := hsp d' rfl
        subst esp
        refine ⟨_, rfl, b, 3, rfl, B1, by decide, by decide, fun m H2 m0 m1 B2 k2 => ?_⟩
        refine ⟨m, rfl, by omega, by omega, fun D hD => lc_range (fun i H3 => ∃ acc, H3 D = some (.lst acc) ∧ acc.length = i ∧ (∀ x ∈ acc, Sh b H3 x) ∧ Box H3 b ∧ But b H2 H3)
          ⟨[], upd_same, rfl, (fun x h => nomatch h), B2.same (same_new hD), But.of_same (same_new hD)⟩ (fun i H3 hi hP => ?_) (fun H3 hP => ?_)⟩
        · obtain ⟨acc, hA, hl, hacc, B3, k3⟩ := hP
          have neD := B2.ne_none hD
          refine ⟨rfl, _, rfl, _, rfl, _, _, rfl, rfl, b, ?_, B3, fun v H4 hv B4 k4 => ⟨acc, k4 _ _ neD hA, szl (by omega), acc ++ [v], upd_same, by rw [List.length_append, hl]; rfl, (fun x hx => by
            rcases List.mem_append.mp hx with h | h
            · exact ((hacc x h).but k4).set (k4 _ _ neD hA)
            · rw [List.mem_singleton] at h
              subst h
              exact hv.sh.set (k4 _ _ neD hA)), box_ne B4 neD, but_new (k3.trans k4) hD⟩⟩
          show [V.ref b, V.int (((d' + 1 : Nat) : Int) - 1)] = [V.ref b, V.int (d' : Nat)]
          rw [show (((d' + 1 : Nat) : Int) - 1) = (d' : Nat) by omega]
        · obtain ⟨acc, hA, hl, hacc, B3, k3⟩ := hP
          have neD := B2.ne_none hD
          have kk := (k1.trans k2).trans k3
          refine ⟨_, rfl, _, _, rfl, rfl, _, rfl, ifB (fun e3 => ?_) (fun e3 => ?_)⟩
          · exact ⟨_, rfl, k _ _ ⟨neD, acc, .inl hA, by omega, hacc⟩ B3 kk⟩
          · refine ⟨_, rfl, D, acc, rfl, .inl ⟨SqL.of hA, fun l hl' => ?_⟩⟩
            exact k _ _ ⟨B3.ne_none hl', acc, .inr upd_same, by omega, fun x hx => (hacc x hx).but (But.of_same (same_new hl'))⟩ (B3.same (same_new hl')) (kk.trans (But.of_same (same_new hl')))
    all_goals
      refine ⟨szL (Nat.le_of_ble_eq_true rfl), fun W nW => ?_⟩
      have BW := B1.same (same_new (o := .lst [.str "", .str "up", .str "+", .str "add", .str "n", .str "n-1", .str "lost", .str "lacking", .str "0", .str "-", .str "put", .str "rounds n", .str "down", .str "\n", .str "(n)/2"]) nW)
      repeat walk_at "st"
      refine fun p1 np1 => ?_
      have B2 := BW.same (same_new (o := .lst [.str "n"]) np1)
      repeat walk_at "st"
      refine ⟨szL (Nat.le_of_ble_eq_true rfl), fun p2 np2 => ?_⟩
      have B3 := B2.same (same_new (o := .tup [.int 1, .int 2]) np2)
      repeat walk_at "st"
      refine ⟨szL (Nat.le_of_ble_eq_true rfl), fun p3 np3 => ?_⟩
      have B4 := B3.same (same_new (o := .lst [.non, .bl true, .bl false, .int 0, .int 1, .int 2, .int (0 - 1), .int (10 ^ 9 - 1), .ref p1, .ref p2, .int 4]) np3)
      have kk := ((k1.trans (But.of_same (same_new (o := .lst [.str "", .str "up", .str "+", .str "add", .str "n", .str "n-1", .str "lost", .str "lacking", .str "0", .str "-", .str "put", .str "rounds n", .str "down", .str "\n", .str "(n)/2"]) nW))).trans (But.of_same (same_new (o := .lst [.str "n"]) np1))).trans ((But.of_same (same_new (o := .tup [.int 1, .int 2]) np2)).trans (But.of_same (same_new (o := .lst [.non, .bl true, .bl false, .int 0, .int 1, .int 2, .int (0 - 1), .int (10 ^ 9 - 1), .ref p1, .ref p2, .int 4]) np3)))
      have w1 : W ≠ b := B1.ne_none nW
      have p1b : p1 ≠ b := BW.ne_none np1
      have p2b : p2 ≠ b := B2.ne_none np2
      have p3b : p3 ≠ b := B3.ne_none np3
      refine ⟨_, rfl, _, _, rfl, rfl, _, rfl, ifB (fun _ => ?_) (fun _ => ?_)⟩
      · refine' ⟨_, rfl, _, rfl, b, W, _, rfl, B4, w1, ?hW, ?l0, ?l1, fun v H5 hv B5 k5 => k v H5 ?fin B5 (kk.trans k5)⟩
        case hW =>
          rw [upd_ne (ne_of_none (by rw [upd_ne (ne_of_none (by rw [upd_ne (ne_of_none upd_same np1)]; exact upd_same) np2), upd_ne (ne_of_none upd_same np1)]; exact upd_same) np3), upd_ne (ne_of_none (by rw [upd_ne (ne_of_none upd_same np1)]; exact upd_same) np2), upd_ne (ne_of_none upd_same np1)]
          exact upd_same
        case l0 => simp
        case l1 => simp
        case fin =>
          simp only [List.mem_cons, List.not_mem_nil, or_false] at hv
          rcases hv with h | h | h | h | h | h | h | h | h | h | h | h | h | h | h <;> (subst h; trivial)
      · refine ⟨_, rfl, _, rfl, b, p3, _, rfl, B4, p3b, upd_same, by simp, by simp, fun v H5 hv B5 k5 => k v H5 ?_ B5 (kk.trans k5)⟩
        simp only [List.mem_cons, List.not_mem_nil, or_false] at hv
        rcases hv with h | h | h | h | h | h | h | h | h | h | h
        case' inr.inr.inr.inr.inr.inr.inr.inr.inl =>
          subst h
          exact ⟨p1b, _, .inl (k5 _ _ p1b (by rw [upd_ne (ne_of_none (by rw [upd_ne (ne_of_none upd_same np2)]; exact upd_same) np3), upd_ne (ne_of_none upd_same np2)]; exact upd_same)), by simp, fun x hx => by simp at hx; subst hx; trivial⟩
        case' inr.inr.inr.inr.inr.inr.inr.inr.inr.inl =>
          subst h
          exact ⟨p2b, _, .inr (k5 _ _ p2b (by rw [upd_ne (ne_of_none upd_same np3)]; exact upd_same)), by simp, fun x hx => by simp at hx; rcases hx with rfl | rfl <;> trivial⟩
        all_goals (subst h; trivial)
theorem ok_any (T : Txt K mg) : ∀ d : Nat, FnOk P w K mg base CX0 (3 + d) T.a__law_any T.d__law_any ["_law_box_here", "_law_deep"] (spAny d)
  | 0 => any_step T 0 2 (Nat.le_refl _) _ none_ok (fun d' h => by omega)
  | d + 1 => any_step T (d + 1) (3 + d) (by omega) (spAny d) (ok_any T d) (fun d' h => by rw [show d' = d by omega])

theorem isAll_rep {K : PySem.W.Frag} {C : Addr} {H : Hp} {r : Bool} : ∀ {vs : List V}, (∀ v ∈ vs, IsC K C H v r) → IsAll K C H vs (List.replicate vs.length r)
  | [], _ => trivial
  | v :: vs, h => ⟨h v List.mem_cons_self, isAll_rep fun u hu => h u (List.mem_cons_of_mem _ hu)⟩
theorem IsAll.append {K : PySem.W.Frag} {C : Addr} {H : Hp} : ∀ {vs us : List V} {rs qs : List Bool}, IsAll K C H vs rs → IsAll K C H us qs → IsAll K C H (vs ++ us) (rs ++ qs)
  | [], _, [], _, _, k => k
  | [], _, _ :: _, _, h, _ => h.elim
  | _ :: _, _, [], _, h, _ => h.elim
  | _ :: _, _, _ :: _, _, h, k => ⟨h.1, IsAll.append h.2 k⟩
theorem Sh.notC {K : PySem.W.Frag} {b C : Addr} {H : Hp} {v : V} (I : OwnI K C) (h : Sh b H v) : IsC K C H v false := by
  obtain ⟨T, ty, bt⟩ := h.bt (K := K)
  exact ⟨_, ty, I.bt bt⟩
theorem isAll_mid {n m : Nat} : (List.replicate n true ++ [false] ++ List.replicate m true).all id = false := by simp
theorem sla_any {K : PySem.W.Frag} {H : Hp} {a : Addr} {xs : List V} {lo hi : Option Int} {Q : VK} (h : SqT K H a xs) (q : ∀ t H', Same H H' → SqT K H' t (cutV xs lo hi) → Q (.ref t) H') : rSlA K (.ref a) lo hi H Q := by
  refine ⟨a, xs, rfl, h, fun e => ?_, fun _ p np => q p _ (same_new np) (SqT.of upd_same)⟩
  have e2 : cutV xs lo hi = xs := by
    unfold cutV
    rw [e.1, e.2, List.drop_zero, Nat.sub_zero, List.take_length]
  exact q a H (Same.refl _) (by rw [e2]; exact h)
theorem cut_one {xs : List V} (h : 0 < xs.length) : ∃ y, y ∈ xs ∧ cutV xs none (some 1) = [y] := by
  match xs, h with
  | y :: ys, _ => exact ⟨y, List.mem_cons_self, by rw [cut_take _ (by decide)]; rfl⟩
theorem Same.sqT {K : PySem.W.Frag} {H H' : Hp} {a : Addr} {xs : List V} (s : Same H H') (h : SqT K H a xs) : SqT K H' a xs := (Fz.of_same s).sqT h
theorem kit_seq_no {K : PySem.W.Frag} {T : String} (h1 : kitB T "list" = some false) (h2 : kitB T "tuple" = some false) : PySem.W.kitAny K (.type T) [.type "list", .type "tuple"] = some false := by
  unfold PySem.W.kitAny
  rw [kit_ty h1]
  unfold PySem.W.kitAny
  rw [kit_ty h2]
  rfl
/-- plain values are no sequences -/
theorem plain_no {K : PySem.W.Frag} {H : Hp} {v : V} (h : flatV v = true) (n : v = .non ∨ (∃ b, v = .bl b) ∨ (∃ i, v = .int i) ∨ ∃ x, v = .str x) : ∃ t, TyX K H v t ∧ PySem.W.kitAny K t [.type "list", .type "tuple"] = some false := by
  rcases n with rfl | ⟨b, rfl⟩ | ⟨i, rfl⟩ | ⟨x, rfl⟩
  · exact ⟨_, .base .non, kit_seq_no (by decide +kernel) (by decide +kernel)⟩
  · exact ⟨_, .base (.bl b), kit_seq_no (by decide +kernel) (by decide +kernel)⟩
  · exact ⟨_, .base (.int i), kit_seq_no (by decide +kernel) (by decide +kernel)⟩
  · exact ⟨_, .base (.str x), kit_seq_no (by decide +kernel) (by decide +kernel)⟩
theorem ref_good (n : Nat) : decide (V.bl (!(List.replicate n false).all id) = V.bl (decide (V.int (n : Nat) = V.int 0))) = false := by
  cases n with
  | zero => rfl
  | succ m =>
    have : decide (V.int ((m + 1 : Nat) : Int) = V.int 0) = false := decide_eq_false (fun h => by injection h with h; omega)
    rw [this]
    rfl

def spLaw (K : PySem.W.Frag) : Sp := fun vs H Q _ => ∃ (a : Addr) (ns : List Int), vs = [.ref a] ∧ SqL K H a (ns.map V.int) ∧ ns.length ≤ 63 ∧ ∀ H', Q (.bl true) H'
theorem ok_law (T : Txt K mg) : FnOk P w K mg base CX0 9 T.a_law T.d_law ["_law_script"] (spLaw K) := by
  have G__law_take : FnOk P w K mg base CX0 1 T.a__law_take T.d__law_take ["_law_box_here", "_law_many"] spTake := ok_take T
  have G__law_pick : FnOk P w K mg base CX0 2 T.a__law_pick T.d__law_pick ["_law_box_here", "_law_some"] spPick := ok_pick T
  have G__law_box : FnOk P w K mg base CX0 1 T.a__law_box T.d__law_box ["_law_script", "_law_k"] (spBox K) := ok_box T
  have G__law_plan : FnOk P w K mg base CX0 6 T.a__law_plan T.d__law_plan ["_law_box_here", "_law_blocks", "_law_lanes", "_law_far"] spPlan := ok_plan T
  have G__law_plan_of : FnOk P w K mg base CX0 5 T.a__law_plan_of T.d__law_plan_of ["_law_plan_here"] (spPlanOf T.c_Plan T.c_Block T.c_Lane) := ok_plan_of T
  have G__law_is_refused : FnOk P w K mg base CX0 6 T.a__law_is_refused T.d__law_is_refused ["_law_value"] (spRef K T.c_Block) := ok_is_refused T
  have A2 : FnOk P w K mg base CX0 5 T.a__law_any T.d__law_any ["_law_box_here", "_law_deep"] (spAny 2) := ok_any T 2
  have A4 : FnOk P w K mg base CX0 7 T.a__law_any T.d__law_any ["_law_box_here", "_law_deep"] (spAny 4) := ok_any T 4
  have G__law_any : FnOk P w K mg base CX0 7 T.a__law_any T.d__law_any ["_law_box_here", "_law_deep"] (fun vs H Q E => spAny 2 vs H Q E ∨ spAny 4 vs H Q E) := ⟨fun vs H Q E h => h.elim (A2.len vs H Q E) (A4.len vs H Q E), fun A outer s H args us vs Q E hr e0 bd r h => h.elim (A2.run A outer s H args us vs Q E (hr.mono (by decide)) e0 bd r) (A4.run A outer s H args us vs Q E hr e0 bd r)⟩
  refine T.F_law.ok sc_law (fun vs H Q E h => ?_) (fun cdv A outer s H vs Q E hr h => ?_)
  · obtain ⟨a, ns, rfl, _⟩ := h
    rfl
  · obtain ⟨a, ns, rfl, hS, hlen, k⟩ := h
    have nd := sc_law.nd
    refine ⟨_, (pss_cons (ps_for PassesOwn.never rfl (pi_range1 (by rfl) T.z_range (pa_cons (pe_callB (call_max2 rfl) (by rfl) T.z_max (by decide +kernel) (pa_cons pe_int (pa_cons (pe_callB (call_min2 rfl) (by rfl) T.z_min (by decide +kernel) (pa_cons pe_int (pa_cons (pe_callB call_len_seq (by rfl) T.z_len (by decide +kernel) (pa_cons (pv 0) pa_nil)) pa_nil))) pa_nil))) pa_nil)) (pg_name (i := 1) nd rfl (Or.inl rfl))
    (pss_cons (ps_set (i := 2) nd rfl (Or.inl rfl) (pe_call G__law_box (hr.mono (by first | decide | omega)) (by rfl) T.m__law_box T.k__law_box T.b__law_box .nil pass0 (pa_cons (pv 0) (pa_cons (pv 1) pa_nil))))
    (pss_cons (ps_for PassesOwn.never rfl (pi_range1 (by rfl) T.z_range (pa_cons pe_int pa_nil)) (pg_name (i := 3) nd rfl (Or.inl rfl))
    (pss_cons (ps_set (i := 4) nd rfl (Or.inl rfl) (pe_call G__law_plan_of (hr.mono (by first | decide | omega)) (by rfl) T.m__law_plan_of T.k__law_plan_of T.b__law_plan_of .nil pass0 (pa_cons (pe_call G__law_plan (hr.mono (by first | decide | omega)) (by rfl) T.m__law_plan T.k__law_plan T.b__law_plan .nil pass0 (pa_cons (pv 2) (pa_cons pe_int (pa_cons pe_int (pa_cons pe_int pa_nil))))) pa_nil)))
    (pss_cons (ps_set (i := 5) nd rfl (Or.inl rfl) (pe_callTy call_list_of (by rfl) T.z_list (by decide +kernel) (pa_cons (pe_fld (pv 4) rfl) pa_nil)))
    (pss_cons (ps_if (PW.pt (pw_or (pt_val (pe_call G__law_is_refused (hr.mono (by first | decide | omega)) (by rfl) T.m__law_is_refused T.k__law_is_refused T.b__law_is_refused .nil pass0 (pa_cons (pv 5) pa_nil))) (pw_or1 (pt_val (pe_call G__law_is_refused (hr.mono (by first | decide | omega)) (by rfl) T.m__law_is_refused T.k__law_is_refused T.b__law_is_refused .nil pass0 (pa_cons (pe_fld (pv 4) rfl) pa_nil)))))) (pss_one (ps_ret pe_bl)) pss_nil)
    (pss_cons (ps_set (i := 6) nd rfl (Or.inl rfl) (pe_op op_cat (pe_lst (pa_cons (pv 4) (pa_cons pe_non (pa_cons pe_str (pa_cons pe_int (pa_cons (pv 5) (pa_cons (pe_call G__law_any (hr.mono (by first | decide | omega)) (by rfl) T.m__law_any T.k__law_any T.b__law_any .nil pass0 (pa_cons (pv 2) (pa_cons pe_int pa_nil))) pa_nil))))))) (pe_callTy call_list_of (by rfl) T.z_list (by decide +kernel) (pa_cons (pe_slice sl_tupA (pe_fld (pe_ix ix_tup (pe_slice sl_tupA (pe_fld (pv 4) rfl) po_none (po_some pe_int)) pe_int (fun _ _ => rfl)) rfl) po_none (po_some pe_int)) pa_nil))))
    (pss_cons (ps_set (i := 7) nd rfl (Or.inl rfl) (pe_call G__law_take (hr.mono (by first | decide | omega)) (by rfl) T.m__law_take T.k__law_take T.b__law_take .nil pass0 (pa_cons (pv 2) (pa_cons (pe_op op_add (pe_callB call_len_seq (by rfl) T.z_len (by decide +kernel) (pa_cons (pv 5) pa_nil)) pe_int) pa_nil))))
    (pss_cons (ps_set (i := 8) nd rfl (Or.inl rfl) (pe_op op_cat (pe_op op_cat (pe_slice sl_list (pv 5) po_none (po_some (pv 7))) (pe_lst (pa_cons (pe_call G__law_pick (hr.mono (by first | decide | omega)) (by rfl) T.m__law_pick T.k__law_pick T.b__law_pick .nil pass0 (pa_cons (pv 2) (pa_cons (pv 6) pa_nil))) pa_nil))) (pe_slice sl_list (pv 5) (po_some (pv 7)) po_none)))
    (pss_cons (ps_if (PW.pt (pw_or (pt_not (pt_val (pe_call G__law_is_refused (hr.mono (by first | decide | omega)) (by rfl) T.m__law_is_refused T.k__law_is_refused T.b__law_is_refused .nil pass0 (pa_cons (pv 8) pa_nil)))) (pw_or1 (pt_not (pt_val (pe_call G__law_is_refused (hr.mono (by first | decide | omega)) (by rfl) T.m__law_is_refused T.k__law_is_refused T.b__law_is_refused .nil pass0 (pa_cons (pe_callTy call_tuple_of (by rfl) T.z_tuple (by decide +kernel) (pa_cons (pv 8) pa_nil)) pa_nil))))))) (pss_one (ps_ret pe_bl)) pss_nil)
    (pss_cons (ps_set (i := 9) nd rfl (Or.inl rfl) (pe_call G__law_any (hr.mono (by first | decide | omega)) (by rfl) T.m__law_any T.k__law_any T.b__law_any .nil pass0 (pa_cons (pv 2) (pa_cons pe_int pa_nil))))
    (pss_cons (ps_set (i := 10) nd rfl (Or.inl rfl) (pe_and (pe_callB call_isiT (by rfl) T.z_isinstance (by decide +kernel) (pa_cons (pv 9) (pa_cons (pe_tup (pa_cons (pe_bltn (v := .ty "list") (u := .type "list") (by rfl) T.z_list (by decide +kernel) (by exact rfl)) (pa_cons (pe_bltn (v := .ty "tuple") (u := .type "tuple") (by rfl) T.z_tuple (by decide +kernel) (by exact rfl)) pa_nil))) pa_nil))) (pe_one (pe_cmpR op_eq (pe_callB call_len_seq (by rfl) T.z_len (by decide +kernel) (pa_cons (pv 9) pa_nil)) pe_int (nomark _)))))
    (pss_one (ps_if (pt_cmpR op_eq (pe_call G__law_is_refused (hr.mono (by first | decide | omega)) (by rfl) T.m__law_is_refused T.k__law_is_refused T.b__law_is_refused .nil pass0 (pa_cons (pv 9) pa_nil)) (pv 10) (nomark _)) (pss_one (ps_ret pe_bl)) pss_nil))))))))))))
    (pss_one (ps_for PassesOwn.never rfl (pi_tup (pe_tup (pa_cons pe_non (pa_cons pe_int (pa_cons pe_bl (pa_cons pe_str (pa_cons pe_str (pa_cons (pv 4) (pa_cons (pe_ix ix_tup (pe_fld (pv 4) rfl) pe_int (fun _ _ => rfl)) pa_nil))))))))) (pg_name (i := 9) nd rfl (Or.inl rfl))
    (pss_one (ps_if (pt_not (pt_val (pe_call G__law_is_refused (hr.mono (by first | decide | omega)) (by rfl) T.m__law_is_refused T.k__law_is_refused T.b__law_is_refused .nil pass0 (pa_cons (pv 9) pa_nil)))) (pss_one (ps_ret pe_bl)) pss_nil)))))))
    (pss_one (ps_ret pe_bl))), ?_⟩
    refine ⟨_, rfl, _, _, rfl, .inl hS, _, _, rfl, _, _, rfl, _, rfl, ?_, ?_, ?_⟩
    · split <;> split <;> omega
    · split <;> split <;> omega
    refine for_range (fun i σ H2 => ∃ y1 y2 y3 y4 y5 y6 y7 y8 y9 y10, σ = [some (.ref a), y1, y2, y3, y4, y5, y6, y7, y8, y9, y10] ∧ Same H H2)
      ⟨none, none, none, none, none, none, none, none, none, none, rfl, Same.refl _⟩ (fun i σ H2 hi hP => ?_) (fun σ H2 hP => ?_)
    · obtain ⟨y1, y2, y3, y4, y5, y6, y7, y8, y9, y10, rfl, s2⟩ := hP
      have i4 : i < 1000 := by
        revert hi
        split <;> split <;> omega
      refine ⟨_, rfl, _, rfl, a, ns, _, rfl, s2.seq hS, by omega, by omega, fun H3 b s3 nb B3 => ?_⟩
      have s03 := s2.trans s3
      have nb0 : H b = none := s2.free nb
      refine ⟨6, rfl, by decide, by decide, for_range (fun j σ H4 => ∃ y3 y4 y5 y6 y7 y8 y9 y10, σ = [some (.ref a), some (.int (0 + (i : Int))), some (.ref b), y3, y4, y5, y6, y7, y8, y9, y10] ∧ But b H3 H4 ∧ Box H4 b ∧ (1 ≤ j → ∃ u, y4 = some u ∧ PlanI T.c_Plan T.c_Block T.c_Lane H4 u))
        ⟨y3, y4, y5, y6, y7, y8, y9, y10, rfl, But.refl _ _, B3, fun h => by omega⟩ (fun j σ H4 hj hP => ?_) (fun σ H4 hP => ?_)⟩
      · obtain ⟨y3, y4, y5, y6, y7, y8, y9, y10, rfl, k4, B4, _⟩ := hP
        refine ⟨_, rfl, b, 4, 2, 3, rfl, B4, by decide, by decide, by decide, by decide, by decide, by decide, fun A0 H5 hA B5 k5 => ⟨b, A0, rfl, hA, fun u H6 hu s6 => ?_⟩⟩
        have hmade := hu
        obtain ⟨x, dx, tp, bs, dF, rfl, hx, ht, l0, l1, hbs⟩ := hu
        have B6 := B5.same s6
        refine ⟨_, rfl, x, _, dx, _, _, rfl, hx, T.C_Plan, T.n_Plan_blocks, rfl, tp, _, rfl, .inr (SqT.of ht), fun S nS => ?_⟩
        have B7 := B6.same (same_new (o := .lst bs) nS)
        have neS := B6.ne_none nS
        have isB : ∀ {H' : Hp}, Fz H6 H' → ∀ y ∈ bs, IsC K T.c_Block H' y true := fun z y hy => by
          obtain ⟨q, dq, gs, e, hq⟩ := (hbs y hy).ins
          subst e
          exact ⟨_, T.I_Block.ty T.C_Block (z _ _ trivial hq), kit_self⟩
        have f67 : Fz H6 (upd H6 S (.lst bs)) := Fz.new nS
        refine ⟨_, rfl, _, rfl, .inl ⟨S, bs, List.replicate bs.length true, rfl, .inl upd_same, by omega, isAll_rep (isB f67), fun H8 s8 => ?_⟩⟩
        refine ⟨_, rfl, ifF (by simp) ?_⟩
        have f68 := f67.trans (Fz.of_same s8)
        refine ⟨_, rfl, x, _, dx, _, _, rfl, f68 _ _ trivial hx, T.C_Plan, T.n_Plan_blocks, rfl, _, rfl, .inl ⟨tp, bs, List.replicate bs.length true, rfl, .inr (f68 _ _ trivial ht), by omega, isAll_rep (isB f68), fun H9 s9 => ?_⟩⟩
        refine ⟨_, rfl, ifF (by simp) ?_⟩
        have s79 := s8.trans s9
        have hS9 : H9 S = some (.lst bs) := s79 _ _ upd_same
        have f69 := f67.trans (Fz.of_same s79)
        have B9 := B7.same s79
        have k49 : But b H4 H9 := ((k5.trans (But.of_same s6)).trans (But.of_same (same_new nS))).trans (But.of_same s79)
        refine ⟨_, rfl, _, rfl, _, rfl, .inl ⟨b, rfl, B9, fun v H10 hv B10 k10 => ?_⟩⟩
        refine ⟨szL (Nat.le_of_ble_eq_true rfl), fun O nO => ?_⟩
        have f910 := B9.fz k10
        have f9O := f910.trans (Fz.new (o := .lst [.ref x, .non, .str "rounds n", .int 3, .ref S, v]) nO)
        have f6O := f69.trans f9O
        have k9O := k10.trans (But.of_same (same_new (o := .lst [.ref x, .non, .str "rounds n", .int 3, .ref S, v]) nO))
        have BO := B10.same (same_new (o := .lst [.ref x, .non, .str "rounds n", .int 3, .ref S, v]) nO)
        have hO : upd H10 O (.lst [.ref x, .non, .str "rounds n", .int 3, .ref S, v]) O = some (.lst [.ref x, .non, .str "rounds n", .int 3, .ref S, v]) := upd_same
        have hvO := hv.but (But.of_same (b := b) (same_new (o := .lst [.ref x, .non, .str "rounds n", .int 3, .ref S, v]) nO))
        have neO := B10.ne_none nO
        generalize upd H10 O (.lst [.ref x, .non, .str "rounds n", .int 3, .ref S, v]) = HO at f6O k9O BO hO hvO
        refine ⟨_, rfl, x, _, dx, _, _, rfl, f6O _ _ trivial hx, T.C_Plan, T.n_Plan_blocks, rfl, ?_⟩
        refine ⟨_, rfl, ?_⟩
        refine sla_any (SqT.of (f6O _ _ trivial ht)) fun q1 H11 s11 hq1 => ?_
        obtain ⟨c0, hc0, ec0⟩ := cut_one l0
        rw [ec0] at hq1
        have f611 := f6O.trans (Fz.of_same s11)
        obtain ⟨xb, dxb, fb, tpb, lb, rfl, hxb, htb, lb0, lb1, hlb⟩ := (hbs c0 hc0).fz f611
        refine ⟨_, _, _, _, rfl, rfl, hq1, rfl, ?_⟩
        refine ⟨xb, _, dxb, _, _, rfl, hxb, T.C_Block, T.n_Block_lanes, rfl, ?_⟩
        refine ⟨_, rfl, ?_⟩
        refine sla_any (SqT.of htb) fun q2 H12 s12 hq2 => ?_
        obtain ⟨la, hla, ela⟩ := cut_one lb0
        rw [ela] at hq2
        refine ⟨q2, _, rfl, .inr hq2, fun S2 nS2 => ?_⟩
        have s13 := (s11.trans s12).trans (same_new (o := .lst [la]) nS2)
        have hS2 : upd H12 S2 (.lst [la]) S2 = some (.lst [la]) := upd_same
        have hla13 : InsOf T.c_Lane (upd H12 S2 (.lst [la])) la := ((hlb la hla).fz (Fz.of_same s12)).fz (Fz.new nS2)
        generalize upd H12 S2 (.lst [la]) = H13 at s13 hS2 hla13
        refine ⟨O, S2, _, _, rfl, rfl, s13 _ _ hO, hS2, by show 6 + 1 ≤ sizeLine; decide, fun O2 nO2 => ?_⟩
        have neO2 : O2 ≠ b := (BO.same s13).ne_none nO2
        have s14 := s13.trans (same_new (o := .lst ([.ref x, .non, .str "rounds n", .int 3, .ref S, v] ++ [la])) nO2)
        have hO2 : upd H13 O2 (.lst ([.ref x, .non, .str "rounds n", .int 3, .ref S, v] ++ [la])) O2 = some (.lst ([.ref x, .non, .str "rounds n", .int 3, .ref S, v] ++ [la])) := upd_same
        have hla14 := hla13.fz (Fz.new (o := .lst ([.ref x, .non, .str "rounds n", .int 3, .ref S, v] ++ [la])) nO2)
        generalize upd H13 O2 (.lst ([.ref x, .non, .str "rounds n", .int 3, .ref S, v] ++ [la])) = H14 at s14 hO2 hla14
        have B14 := BO.same s14
        have k914 := k9O.trans (But.of_same (b := b) s14)
        have f614 := f6O.trans (Fz.of_same s14)
        have hv14 := hvO.but (But.of_same (b := b) s14)
        have hS14 : H14 S = some (.lst bs) := k914 _ _ neS hS9
        refine ⟨_, rfl, _, rfl, S, _, rfl, .inl (SqL.of hS14), _, _, rfl, rfl, b, _, rfl, B14, by omega, by omega, fun at' H15 a0 a1 B15 k15 => ?_⟩
        refine ⟨_, rfl, _, rfl, _, rfl, S, _, rfl, SqL.of (k15 _ _ neS hS14), fun S3 nS3 => ?_⟩
        have k16 := k15.trans (But.of_same (b := b) (same_new (o := .lst (cutV bs none (some at'))) nS3))
        have B16 := B15.same (same_new (o := .lst (cutV bs none (some at'))) nS3)
        refine ⟨_, rfl, _, rfl, b, O2, _, rfl, B16, neO2, k16 _ _ neO2 hO2, by simp, by simp, fun u H17 hu B17 k17 => ?_⟩
        have k1417 := k16.trans k17
        have hS3 : H17 S3 = some (.lst (cutV bs none (some at'))) := k17 _ _ (B15.ne_none nS3) upd_same
        have f617 := f614.trans (B14.fz k1417)
        have hu17 : IsC K T.c_Block H17 u false := by
          simp only [List.mem_cons, List.not_mem_nil, or_false, List.cons_append, List.nil_append] at hu
          rcases hu with rfl | rfl | rfl | rfl | rfl | rfl | rfl
          · exact ⟨_, T.I_Plan.ty T.C_Plan (f617 _ _ trivial hx), T.kit_Plan_Block⟩
          · exact Sh.notC (b := b) T.I_Block (v := .non) trivial
          · exact Sh.notC (b := b) T.I_Block (v := .str _) trivial
          · exact Sh.notC (b := b) T.I_Block (v := .int _) trivial
          · exact ⟨_, .base (.lst (k1417 _ _ neS hS14)), T.I_Block.bt .lst⟩
          · exact Sh.notC T.I_Block (Sh2.sh (hv14.but k1417))
          · obtain ⟨q, dq, gs, rfl, hq⟩ := hla14.fz (B14.fz k1417)
            exact ⟨_, T.I_Lane.ty T.C_Lane hq, T.kit_Lane_Block⟩
        refine ⟨szL (Nat.le_of_ble_eq_true rfl), fun S4 nS4 => ?_⟩
        have lc1 := cutV_length bs none (some at')
        have lc2 := cutV_length bs (some at') none
        have s18 := same_new (H := H17) (o := .lst [u]) nS4
        have hS4 : upd H17 S4 (.lst [u]) S4 = some (.lst [u]) := upd_same
        generalize upd H17 S4 (.lst [u]) = H18 at s18 hS4
        refine ⟨S3, S4, _, _, rfl, rfl, s18 _ _ hS3, hS4, by have e := sizeLine_eq; show (cutV bs none (some at')).length + 1 ≤ sizeLine; omega, fun S5 nS5 => ?_⟩
        have s19 := s18.trans (same_new (o := .lst (cutV bs none (some at') ++ [u])) nS5)
        have hS5 : upd H18 S5 (.lst (cutV bs none (some at') ++ [u])) S5 = some (.lst (cutV bs none (some at') ++ [u])) := upd_same
        generalize upd H18 S5 (.lst (cutV bs none (some at') ++ [u])) = H19 at s19 hS5
        refine ⟨_, rfl, _, rfl, _, rfl, S, _, rfl, SqL.of (s19 _ _ (k1417 _ _ neS hS14)), fun S6 nS6 => ?_⟩
        refine ⟨S5, S6, _, _, rfl, rfl, same_new nS6 _ _ hS5, upd_same, by have e := sizeLine_eq; rw [List.length_append]; show (cutV bs none (some at')).length + 1 + _ ≤ sizeLine; omega, fun S7 nS7 => ?_⟩
        have s21 := (s19.trans (same_new (o := .lst (cutV bs (some at') none)) nS6)).trans (same_new (o := .lst ((cutV bs none (some at') ++ [u]) ++ cutV bs (some at') none)) nS7)
        have hS7 : upd (upd H19 S6 (.lst (cutV bs (some at') none))) S7 (.lst ((cutV bs none (some at') ++ [u]) ++ cutV bs (some at') none)) S7 = some (.lst ((cutV bs none (some at') ++ [u]) ++ cutV bs (some at') none)) := upd_same
        generalize upd (upd H19 S6 (.lst (cutV bs (some at') none))) S7 (.lst ((cutV bs none (some at') ++ [u]) ++ cutV bs (some at') none)) = H21 at s21 hS7
        have f621 := f617.trans (Fz.of_same s21)
        have all21 : IsAll K T.c_Block H21 ((cutV bs none (some at') ++ [u]) ++ cutV bs (some at') none) ((List.replicate (cutV bs none (some at')).length true ++ [false]) ++ List.replicate (cutV bs (some at') none).length true) :=
          ((isAll_rep fun y hy => isB f621 y (cut_mem hy)).append (show IsAll K T.c_Block H21 [u] [false] from ⟨hu17.same s21, trivial⟩)).append (isAll_rep fun y hy => isB f621 y (cut_mem hy))
        have ll : ((cutV bs none (some at') ++ [u]) ++ cutV bs (some at') none).length ≤ 1000 := by rw [List.length_append, List.length_append]; show _ + 1 + _ ≤ 1000; omega
        refine ⟨_, rfl, .ref S7, rfl, .inl ⟨S7, _, _, rfl, .inl hS7, ll, all21, fun H22 s22 => ?_⟩⟩
        rw [isAll_mid]
        refine ⟨_, rfl, ifF rfl ?_⟩
        refine ⟨_, rfl, S7, _, rfl, .inl ⟨SqL.of (s22 _ _ hS7), fun t7 nt7 => ?_⟩⟩
        have s23 := s22.trans (same_new (o := .tup ((cutV bs none (some at') ++ [u]) ++ cutV bs (some at') none)) nt7)
        refine ⟨.ref t7, rfl, .inl ⟨t7, _, _, rfl, .inr upd_same, ll, all21.same s23, fun H24 s24 => ?_⟩⟩
        rw [isAll_mid]
        refine ⟨_, rfl, ifF rfl ?_⟩
        have s1724 := s21.trans (s23.trans s24)
        have B24 := B17.same s1724
        have k424 : But b H4 H24 := ((k49.trans k914).trans k1417).trans (But.of_same s1724)
        have f624 := f617.trans (Fz.of_same s1724)
        refine ⟨_, rfl, .inr ⟨b, rfl, B24, fun val H25 hval B25 k25 => ?_⟩⟩
        have fin : ∀ (z9 z10 : Option V) (Hz : Hp), Same H25 Hz → (∃ y3' y4' y5' y6' y7' y8' y9' y10', [some (V.ref a), some (.int (0 + (i : Int))), some (.ref b), some (.int (0 + (j : Int))), some (.ref x), some (.ref S), some (.ref O2), some (.int at'), some (.ref S7), z9, z10] = [some (V.ref a), some (.int (0 + (i : Int))), some (.ref b), y3', y4', y5', y6', y7', y8', y9', y10'] ∧ But b H3 Hz ∧ Box Hz b ∧ (1 ≤ j + 1 → ∃ u, y4' = some u ∧ PlanI T.c_Plan T.c_Block T.c_Lane Hz u)) := fun z9 z10 Hz sz =>
          ⟨_, _, _, _, _, _, _, _, rfl, ((k4.trans k424).trans k25).trans (But.of_same sz), B25.same sz, fun _ => ⟨_, rfl, hmade.fz ((f624.trans (B24.fz k25)).trans (Fz.of_same sz))⟩⟩
        refine ⟨_, rfl, szL (Nat.le_of_ble_eq_true rfl), fun tq ntq => ?_⟩
        have sq := same_new (H := H25) (o := .tup [.ty "list", .ty "tuple"]) ntq
        have htq : upd H25 tq (.tup [.ty "list", .ty "tuple"]) tq = some (.tup [.ty "list", .ty "tuple"]) := upd_same
        generalize upd H25 tq (.tup [.ty "list", .ty "tuple"]) = H26 at sq htq
        cases val with
        | ref a' =>
          obtain ⟨na, xs, hxs | hxs, lx, hsh⟩ := hval
          · refine ⟨_, tq, _, _, _, true, rfl, htq, .cons (.ty _) (.cons (.ty _) .nil), .base (.lst (sq _ _ hxs)), kit_seq_list, _, rfl, ifT rfl ?_⟩
            refine ⟨_, rfl, _, _, rfl, .inl (SqL.of (sq _ _ hxs)), rfl, ?_⟩
            refine ⟨_, rfl, _, rfl, .inl ⟨a', xs, _, rfl, .inl (sq _ _ hxs), by omega, isAll_rep fun y hy => (Sh.notC T.I_Block (hsh y hy)).same sq, fun H27 s27 => ?_⟩⟩
            exact ⟨_, rfl, rfl, _, rfl, ifF (ref_good _) (fin _ _ _ (sq.trans s27))⟩
          · refine ⟨_, tq, _, _, _, true, rfl, htq, .cons (.ty _) (.cons (.ty _) .nil), .base (.tup (sq _ _ hxs)), kit_seq_tup, _, rfl, ifT rfl ?_⟩
            refine ⟨_, rfl, _, _, rfl, .inr (SqT.of (sq _ _ hxs)), rfl, ?_⟩
            refine ⟨_, rfl, _, rfl, .inl ⟨a', xs, _, rfl, .inr (sq _ _ hxs), by omega, isAll_rep fun y hy => (Sh.notC T.I_Block (hsh y hy)).same sq, fun H27 s27 => ?_⟩⟩
            exact ⟨_, rfl, rfl, _, rfl, ifF (ref_good _) (fin _ _ _ (sq.trans s27))⟩
        | non => exact ⟨_, tq, _, _, _, false, rfl, htq, .cons (.ty _) (.cons (.ty _) .nil), .base .non, kit_seq_no (by decide +kernel) (by decide +kernel), _, rfl, ifF rfl ⟨_, rfl, _, rfl, .inr ⟨_, .base .non, kit_seq_no (by decide +kernel) (by decide +kernel), fun H27 s27 => ⟨_, rfl, rfl, _, rfl, ifF rfl (fin _ _ _ (sq.trans s27))⟩⟩⟩⟩
        | bl c => exact ⟨_, tq, _, _, _, false, rfl, htq, .cons (.ty _) (.cons (.ty _) .nil), .base (.bl c), kit_seq_no (by decide +kernel) (by decide +kernel), _, rfl, ifF rfl ⟨_, rfl, _, rfl, .inr ⟨_, .base (.bl c), kit_seq_no (by decide +kernel) (by decide +kernel), fun H27 s27 => ⟨_, rfl, rfl, _, rfl, ifF rfl (fin _ _ _ (sq.trans s27))⟩⟩⟩⟩
        | int c => exact ⟨_, tq, _, _, _, false, rfl, htq, .cons (.ty _) (.cons (.ty _) .nil), .base (.int c), kit_seq_no (by decide +kernel) (by decide +kernel), _, rfl, ifF rfl ⟨_, rfl, _, rfl, .inr ⟨_, .base (.int c), kit_seq_no (by decide +kernel) (by decide +kernel), fun H27 s27 => ⟨_, rfl, rfl, _, rfl, ifF rfl (fin _ _ _ (sq.trans s27))⟩⟩⟩⟩
        | str c => exact ⟨_, tq, _, _, _, false, rfl, htq, .cons (.ty _) (.cons (.ty _) .nil), .base (.str c), kit_seq_no (by decide +kernel) (by decide +kernel), _, rfl, ifF rfl ⟨_, rfl, _, rfl, .inr ⟨_, .base (.str c), kit_seq_no (by decide +kernel) (by decide +kernel), fun H27 s27 => ⟨_, rfl, rfl, _, rfl, ifF rfl (fin _ _ _ (sq.trans s27))⟩⟩⟩⟩
        | byt _ => exact hval.elim
        | flt _ => exact hval.elim
        | ty _ => exact hval.elim
      · obtain ⟨y3, y4, y5, y6, y7, y8, y9, y10, rfl, k4, B4, hm⟩ := hP
        obtain ⟨u, rfl, ⟨x, dx, tp, bs, dF, rfl, hx, ht, l0, l1, hbs⟩⟩ := hm (by decide)
        obtain ⟨c0, cs, rfl⟩ : ∃ c0 cs, bs = c0 :: cs := by
          match bs, l0 with
          | c :: cs, _ => exact ⟨c, cs, rfl⟩
        obtain ⟨xb, dxb, fb, tpb, lb, rfl, hxb, _⟩ := hbs c0 List.mem_cons_self
        refine ⟨_, rfl, _, rfl, x, _, dx, _, _, rfl, hx, T.C_Plan, T.n_Plan_blocks, rfl, _, _, _, _, rfl, rfl, SqT.of ht, atI_ok (by decide) rfl rfl, ?_⟩
        refine ⟨szL (Nat.le_of_ble_eq_true rfl), fun tt ntt => ?_⟩
        refine ⟨tt, rfl, ⟨_, SqT.of upd_same⟩, ?_⟩
        have st := same_new (H := H4) (o := .tup [.non, .int 5, .bl true, .str "", .str "rounds n\nup - 0 add", .ref x, .ref xb]) ntt
        have htt : upd H4 tt (.tup [.non, .int 5, .bl true, .str "", .str "rounds n\nup - 0 add", .ref x, .ref xb]) tt = some (.tup [.non, .int 5, .bl true, .str "", .str "rounds n\nup - 0 add", .ref x, .ref xb]) := upd_same
        refine for_tup (xs := [.non, .int 5, .bl true, .str "", .str "rounds n\nup - 0 add", .ref x, .ref xb]) (fun n σ Hc => ∃ z9, σ = [some (.ref a), some (.int (0 + (i : Int))), some (.ref b), y3, some (.ref x), y5, y6, y7, y8, z9, y10] ∧ Same (upd H4 tt (.tup [.non, .int 5, .bl true, .str "", .str "rounds n\nup - 0 add", .ref x, .ref xb])) Hc)
          ⟨y9, rfl, Same.refl _⟩ (fun n σ Hc _ hP => ?_) (fun n v σ Hc hv hP => ?_) (fun σ Hc hP => ?_)
        · obtain ⟨_, _, sc⟩ := hP
          exact SqT.of (sc _ _ htt)
        · obtain ⟨z9, rfl, sc⟩ := hP
          have no : ∃ t, TyX K Hc v t ∧ PySem.W.kitAny K t [.type "list", .type "tuple"] = some false := by
            have hm2 := List.mem_of_getElem? hv
            simp only [List.mem_cons, List.not_mem_nil, or_false] at hm2
            rcases hm2 with rfl | rfl | rfl | rfl | rfl | rfl | rfl
            · exact ⟨_, .base .non, kit_seq_no (by decide +kernel) (by decide +kernel)⟩
            · exact ⟨_, .base (.int _), kit_seq_no (by decide +kernel) (by decide +kernel)⟩
            · exact ⟨_, .base (.bl _), kit_seq_no (by decide +kernel) (by decide +kernel)⟩
            · exact ⟨_, .base (.str _), kit_seq_no (by decide +kernel) (by decide +kernel)⟩
            · exact ⟨_, .base (.str _), kit_seq_no (by decide +kernel) (by decide +kernel)⟩
            · exact ⟨_, T.I_Plan.ty T.C_Plan (sc _ _ (st _ _ hx)), mro_list T.N_Plan⟩
            · exact ⟨_, T.I_Block.ty T.C_Block (sc _ _ (st _ _ hxb)), mro_list T.N_Block⟩
          obtain ⟨t, ty, kt⟩ := no
          exact ⟨_, rfl, v, rfl, .inr ⟨t, ty, kt, fun H27 s27 => ⟨_, rfl, ifF rfl ⟨_, rfl, sc.trans s27⟩⟩⟩⟩
        · obtain ⟨z9, rfl, sc⟩ := hP
          exact ⟨_, _, _, _, _, _, _, _, _, _, rfl, same_but s03 (k4.trans (But.of_same (st.trans sc))) nb0⟩
    · exact k _

end
theorem all_mk {l : PySem.W.OpenLaw} {w : World} {K : PySem.W.Frag} {h : Heap} {mg : Str → Option Value} {fa : Addr} (X : K.In h) (G : h.Ns mainGlobals mg) (hfa : mg "law" = some (.ref fa))
    {C_RingError : Addr} (aC_RingError : PySem.W.nsIn K mainGlobals "RingError" = some (some (.ref C_RingError)))
    {C_InvalidBlock : Addr} (aC_InvalidBlock : PySem.W.nsIn K mainGlobals "InvalidBlock" = some (some (.ref C_InvalidBlock)))
    {nm_InvalidBlock q_InvalidBlock : Str} {N_InvalidBlock : Addr} {bs_InvalidBlock : List Value} {sn_InvalidBlock : List Str} {sub_InvalidBlock : List Value} {ab_InvalidBlock : Bool} {col_InvalidBlock : Option Bool} {dd_InvalidBlock : Option Addr} {m0_InvalidBlock m1_InvalidBlock m2_InvalidBlock m3_InvalidBlock m5_InvalidBlock : Option Value}
    (xL_InvalidBlock : K.lookup C_InvalidBlock = some (excClassObj nm_InvalidBlock q_InvalidBlock C_InvalidBlock N_InvalidBlock bs_InvalidBlock [.ref C_RingError, .type "ValueError", .type "Exception", .type "BaseException", .type "object"] true sn_InvalidBlock sub_InvalidBlock ab_InvalidBlock col_InvalidBlock dd_InvalidBlock m0_InvalidBlock m1_InvalidBlock m2_InvalidBlock m3_InvalidBlock m5_InvalidBlock "ValueError.__new__"))
    (sa_InvalidBlock : PySem.W.findIn K (.ref C_InvalidBlock) "__setattr__" = some (some (.builtin "object.__setattr__")))
    (ga_InvalidBlock : PySem.W.findIn K (.ref C_InvalidBlock) "__getattribute__" = some (some (.builtin "BaseException.__getattribute__")))
    (gg_InvalidBlock : PySem.W.findIn K (.ref C_InvalidBlock) "__getattr__" = some none)
    (nw_InvalidBlock : PySem.W.findIn K (.ref C_InvalidBlock) "word" = some none)
    (ca_InvalidBlock : PySem.W.findIn K (.ref C_InvalidBlock) "__class__" = some (some (.builtin "object.__class__")))
    (kC_InvalidBlock : PySem.W.keepIn K (.ref C_InvalidBlock) = true)
    (eC_InvalidBlock : PySem.W.subIn K (.ref C_InvalidBlock) (.type "BaseException") = some true)
    (tC_InvalidBlock : PySem.W.typeIn K (.ref C_InvalidBlock) = some (.type "type"))
    (hC_InvalidBlock : PySem.W.hasDictIn K C_InvalidBlock = true)
    (sC_InvalidBlock : PySem.W.subIn K (.ref C_InvalidBlock) (.ref C_InvalidBlock) = some true)
    (mo_InvalidBlock : PySem.W.mroIn K C_InvalidBlock (.type "object") = some true)
    (cl_InvalidBlock : (PySem.W.clsIn K C_InvalidBlock).isSome = true)
    {f0 : Addr} {od0 an0 : Option Addr} {sl0 : Array (Option Value)} {oc0 kV0 dc0 pm0 cd0 ct0 : Value}
    (l0 : K.lookup f0 = some ⟨oc0, od0, .func (PySem.W.fnOf "__init__" "InvalidBlock.__init__" (defArgs s_InvalidBlock___init__) (defBody s_InvalidBlock___init__) (defScope s_InvalidBlock___init__) .none kV0 dc0 pm0 an0 cd0 ct0), sl0⟩) (c0 : PySem.W.codeIn K cd0 "InvalidBlock.__init__" = true) (k0 : PySem.W.keepIn K (.ref f0) = true)
    (iC_InvalidBlock : PySem.W.findIn K (.ref C_InvalidBlock) "__init__" = some (some (.ref f0))) (iT_InvalidBlock : PySem.W.typeIn K (.ref f0) = some (.type "function"))
    {C_InvalidPlan : Addr} (aC_InvalidPlan : PySem.W.nsIn K mainGlobals "InvalidPlan" = some (some (.ref C_InvalidPlan)))
    (xq_InvalidPlan : PySem.W.excIn K C_InvalidPlan [.type "ValueError", .type "Exception", .type "BaseException", .type "object"] "ValueError.__new__" = true)
    (ga_InvalidPlan : PySem.W.findIn K (.ref C_InvalidPlan) "__getattribute__" = some (some (.builtin "BaseException.__getattribute__")))
    (gg_InvalidPlan : PySem.W.findIn K (.ref C_InvalidPlan) "__getattr__" = some none)
    (ca_InvalidPlan : PySem.W.findIn K (.ref C_InvalidPlan) "__class__" = some (some (.builtin "object.__class__")))
    (kC_InvalidPlan : PySem.W.keepIn K (.ref C_InvalidPlan) = true)
    (eC_InvalidPlan : PySem.W.subIn K (.ref C_InvalidPlan) (.type "BaseException") = some true)
    (tC_InvalidPlan : PySem.W.typeIn K (.ref C_InvalidPlan) = some (.type "type"))
    (hC_InvalidPlan : PySem.W.hasDictIn K C_InvalidPlan = true)
    (sC_InvalidPlan : PySem.W.subIn K (.ref C_InvalidPlan) (.ref C_InvalidPlan) = some true)
    (mo_InvalidPlan : PySem.W.mroIn K C_InvalidPlan (.type "object") = some true)
    {C_Form : Addr} (aC_Form : PySem.W.nsIn K mainGlobals "Form" = some (some (.ref C_Form)))
    (pg_Form : PySem.W.plainGet K C_Form Str.empty = true)
    (hd_Form : PySem.W.hasDictIn K C_Form = true)
    (po_Form : PySem.W.plainOver K C_Form = true)
    (sa_Form : PySem.W.findIn K (.ref C_Form) "__setattr__" = some (some (.builtin "object.__setattr__")))
    (mk_Form : PySem.W.makesIn K C_Form = true)
    (kc_Form : PySem.W.keepIn K (.ref C_Form) = true)
    (n_times_Form : PySem.W.findIn K (.ref C_Form) "times" = some none)
    (n_plus_Form : PySem.W.findIn K (.ref C_Form) "plus" = some none)
    (n_by_Form : PySem.W.findIn K (.ref C_Form) "by" = some none)
    (cl_Form : (PySem.W.clsIn K C_Form).isSome = true)
    (tC_Form : PySem.W.typeIn K (.ref C_Form) = some (.type "type"))
    (ca_Form : PySem.W.findIn K (.ref C_Form) "__class__" = some (some (.builtin "object.__class__")))
    (mo_Form : PySem.W.mroIn K C_Form (.type "object") = some true)
    (nE_Form : PySem.W.findIn K (.ref C_Form) "__ne__" = some (some (.builtin "object.__ne__")))
    (mo_N_Form : PySem.W.mroIn K C_Form (.type "NoneType") = some false)
    (mo_S_Form : PySem.W.mroIn K C_Form (.type "str") = some false)
    (mo_T_Form : PySem.W.mroIn K C_Form (.type "tuple") = some false)
    (mo_L_Form : PySem.W.mroIn K C_Form (.type "list") = some false)
    (mo_I_Form : PySem.W.mroIn K C_Form (.type "int") = some false)
    {f1 : Addr} {od1 an1 : Option Addr} {sl1 : Array (Option Value)} {oc1 kV1 dc1 pm1 cd1 ct1 : Value}
    {T1 : Addr} {dd1 : Option Addr} {dn1 : Nat} {dsl1 : Array (Option Value)} {t1_0 : Tok} {t1_1 : Tok} {t1_2 : Tok}
    (t1 : K.lookup T1 = some ⟨.type "tuple", dd1, .seq [Value.int 0 t1_0, Value.int 0 t1_1, Value.int 1 t1_2].toArray dn1, dsl1⟩)
    (l1 : K.lookup f1 = some ⟨oc1, od1, .func (PySem.W.fnOf "__init__" "Form.__init__" (defArgs s_Form___init__) (defBody s_Form___init__) (defScope s_Form___init__) (.ref T1) kV1 dc1 pm1 an1 cd1 ct1), sl1⟩) (c1 : PySem.W.codeIn K cd1 "Form.__init__" = true) (k1 : PySem.W.keepIn K (.ref f1) = true)
    (a1 : PySem.W.findIn K (.ref C_Form) "__init__" = some (some (.ref f1))) (i1 : PySem.W.isFn K (.ref f1) = true)
    {f2 : Addr} {od2 an2 : Option Addr} {sl2 : Array (Option Value)} {oc2 kV2 dc2 pm2 cd2 ct2 : Value}
    (l2 : K.lookup f2 = some ⟨oc2, od2, .func (PySem.W.fnOf "__eq__" "Form.__eq__" (defArgs s_Form___eq__) (defBody s_Form___eq__) (defScope s_Form___eq__) .none kV2 dc2 pm2 an2 cd2 ct2), sl2⟩) (c2 : PySem.W.codeIn K cd2 "Form.__eq__" = true) (k2 : PySem.W.keepIn K (.ref f2) = true)
    (a2 : PySem.W.findIn K (.ref C_Form) "__eq__" = some (some (.ref f2))) (i2 : PySem.W.isFn K (.ref f2) = true)
    {C_Lane : Addr} (aC_Lane : PySem.W.nsIn K mainGlobals "Lane" = some (some (.ref C_Lane)))
    (pg_Lane : PySem.W.plainGet K C_Lane Str.empty = true)
    (hd_Lane : PySem.W.hasDictIn K C_Lane = true)
    (po_Lane : PySem.W.plainOver K C_Lane = true)
    (sa_Lane : PySem.W.findIn K (.ref C_Lane) "__setattr__" = some (some (.builtin "object.__setattr__")))
    (mk_Lane : PySem.W.makesIn K C_Lane = true)
    (kc_Lane : PySem.W.keepIn K (.ref C_Lane) = true)
    (n_way_Lane : PySem.W.findIn K (.ref C_Lane) "way" = some none)
    (n_sign_Lane : PySem.W.findIn K (.ref C_Lane) "sign" = some none)
    (n_shift_Lane : PySem.W.findIn K (.ref C_Lane) "shift" = some none)
    (n_deed_Lane : PySem.W.findIn K (.ref C_Lane) "deed" = some none)
    (cl_Lane : (PySem.W.clsIn K C_Lane).isSome = true)
    (tC_Lane : PySem.W.typeIn K (.ref C_Lane) = some (.type "type"))
    (ca_Lane : PySem.W.findIn K (.ref C_Lane) "__class__" = some (some (.builtin "object.__class__")))
    (mo_Lane : PySem.W.mroIn K C_Lane (.type "object") = some true)
    (nE_Lane : PySem.W.findIn K (.ref C_Lane) "__ne__" = some (some (.builtin "object.__ne__")))
    (mo_N_Lane : PySem.W.mroIn K C_Lane (.type "NoneType") = some false)
    (mo_S_Lane : PySem.W.mroIn K C_Lane (.type "str") = some false)
    (mo_T_Lane : PySem.W.mroIn K C_Lane (.type "tuple") = some false)
    (mo_L_Lane : PySem.W.mroIn K C_Lane (.type "list") = some false)
    (mo_I_Lane : PySem.W.mroIn K C_Lane (.type "int") = some false)
    {f3 : Addr} {od3 an3 : Option Addr} {sl3 : Array (Option Value)} {oc3 kV3 dc3 pm3 cd3 ct3 : Value}
    (l3 : K.lookup f3 = some ⟨oc3, od3, .func (PySem.W.fnOf "__init__" "Lane.__init__" (defArgs s_Lane___init__) (defBody s_Lane___init__) (defScope s_Lane___init__) .none kV3 dc3 pm3 an3 cd3 ct3), sl3⟩) (c3 : PySem.W.codeIn K cd3 "Lane.__init__" = true) (k3 : PySem.W.keepIn K (.ref f3) = true)
    (a3 : PySem.W.findIn K (.ref C_Lane) "__init__" = some (some (.ref f3))) (i3 : PySem.W.isFn K (.ref f3) = true)
    {f4 : Addr} {od4 an4 : Option Addr} {sl4 : Array (Option Value)} {oc4 kV4 dc4 pm4 cd4 ct4 : Value}
    (l4 : K.lookup f4 = some ⟨oc4, od4, .func (PySem.W.fnOf "__eq__" "Lane.__eq__" (defArgs s_Lane___eq__) (defBody s_Lane___eq__) (defScope s_Lane___eq__) .none kV4 dc4 pm4 an4 cd4 ct4), sl4⟩) (c4 : PySem.W.codeIn K cd4 "Lane.__eq__" = true) (k4 : PySem.W.keepIn K (.ref f4) = true)
    (a4 : PySem.W.findIn K (.ref C_Lane) "__eq__" = some (some (.ref f4))) (i4 : PySem.W.isFn K (.ref f4) = true)
    {C_Block : Addr} (aC_Block : PySem.W.nsIn K mainGlobals "Block" = some (some (.ref C_Block)))
    (pg_Block : PySem.W.plainGet K C_Block Str.empty = true)
    (hd_Block : PySem.W.hasDictIn K C_Block = true)
    (po_Block : PySem.W.plainOver K C_Block = true)
    (sa_Block : PySem.W.findIn K (.ref C_Block) "__setattr__" = some (some (.builtin "object.__setattr__")))
    (mk_Block : PySem.W.makesIn K C_Block = true)
    (kc_Block : PySem.W.keepIn K (.ref C_Block) = true)
    (n_rounds_Block : PySem.W.findIn K (.ref C_Block) "rounds" = some none)
    (n_lanes_Block : PySem.W.findIn K (.ref C_Block) "lanes" = some none)
    (cl_Block : (PySem.W.clsIn K C_Block).isSome = true)
    (tC_Block : PySem.W.typeIn K (.ref C_Block) = some (.type "type"))
    (ca_Block : PySem.W.findIn K (.ref C_Block) "__class__" = some (some (.builtin "object.__class__")))
    (mo_Block : PySem.W.mroIn K C_Block (.type "object") = some true)
    (nE_Block : PySem.W.findIn K (.ref C_Block) "__ne__" = some (some (.builtin "object.__ne__")))
    (mo_N_Block : PySem.W.mroIn K C_Block (.type "NoneType") = some false)
    (mo_S_Block : PySem.W.mroIn K C_Block (.type "str") = some false)
    (mo_T_Block : PySem.W.mroIn K C_Block (.type "tuple") = some false)
    (mo_L_Block : PySem.W.mroIn K C_Block (.type "list") = some false)
    (mo_I_Block : PySem.W.mroIn K C_Block (.type "int") = some false)
    {f5 : Addr} {od5 an5 : Option Addr} {sl5 : Array (Option Value)} {oc5 kV5 dc5 pm5 cd5 ct5 : Value}
    (l5 : K.lookup f5 = some ⟨oc5, od5, .func (PySem.W.fnOf "__init__" "Block.__init__" (defArgs s_Block___init__) (defBody s_Block___init__) (defScope s_Block___init__) .none kV5 dc5 pm5 an5 cd5 ct5), sl5⟩) (c5 : PySem.W.codeIn K cd5 "Block.__init__" = true) (k5 : PySem.W.keepIn K (.ref f5) = true)
    (a5 : PySem.W.findIn K (.ref C_Block) "__init__" = some (some (.ref f5))) (i5 : PySem.W.isFn K (.ref f5) = true)
    {f6 : Addr} {od6 an6 : Option Addr} {sl6 : Array (Option Value)} {oc6 kV6 dc6 pm6 cd6 ct6 : Value}
    (l6 : K.lookup f6 = some ⟨oc6, od6, .func (PySem.W.fnOf "__eq__" "Block.__eq__" (defArgs s_Block___eq__) (defBody s_Block___eq__) (defScope s_Block___eq__) .none kV6 dc6 pm6 an6 cd6 ct6), sl6⟩) (c6 : PySem.W.codeIn K cd6 "Block.__eq__" = true) (k6 : PySem.W.keepIn K (.ref f6) = true)
    (a6 : PySem.W.findIn K (.ref C_Block) "__eq__" = some (some (.ref f6))) (i6 : PySem.W.isFn K (.ref f6) = true)
    {C_Plan : Addr} (aC_Plan : PySem.W.nsIn K mainGlobals "Plan" = some (some (.ref C_Plan)))
    (pg_Plan : PySem.W.plainGet K C_Plan Str.empty = true)
    (hd_Plan : PySem.W.hasDictIn K C_Plan = true)
    (po_Plan : PySem.W.plainOver K C_Plan = true)
    (sa_Plan : PySem.W.findIn K (.ref C_Plan) "__setattr__" = some (some (.builtin "object.__setattr__")))
    (mk_Plan : PySem.W.makesIn K C_Plan = true)
    (kc_Plan : PySem.W.keepIn K (.ref C_Plan) = true)
    (n_blocks_Plan : PySem.W.findIn K (.ref C_Plan) "blocks" = some none)
    (n_found_Plan : PySem.W.findIn K (.ref C_Plan) "found" = some none)
    (cl_Plan : (PySem.W.clsIn K C_Plan).isSome = true)
    (tC_Plan : PySem.W.typeIn K (.ref C_Plan) = some (.type "type"))
    (ca_Plan : PySem.W.findIn K (.ref C_Plan) "__class__" = some (some (.builtin "object.__class__")))
    (mo_Plan : PySem.W.mroIn K C_Plan (.type "object") = some true)
    (nE_Plan : PySem.W.findIn K (.ref C_Plan) "__ne__" = some (some (.builtin "object.__ne__")))
    (mo_N_Plan : PySem.W.mroIn K C_Plan (.type "NoneType") = some false)
    (mo_S_Plan : PySem.W.mroIn K C_Plan (.type "str") = some false)
    (mo_T_Plan : PySem.W.mroIn K C_Plan (.type "tuple") = some false)
    (mo_L_Plan : PySem.W.mroIn K C_Plan (.type "list") = some false)
    (mo_I_Plan : PySem.W.mroIn K C_Plan (.type "int") = some false)
    {f7 : Addr} {od7 an7 : Option Addr} {sl7 : Array (Option Value)} {oc7 kV7 dc7 pm7 cd7 ct7 : Value}
    {T7 : Addr} {dd7 : Option Addr} {dn7 : Nat} {dsl7 : Array (Option Value)} {eD_Plan___init___0 : Addr}
    (t7 : K.lookup T7 = some ⟨.type "tuple", dd7, .seq [Value.ref eD_Plan___init___0].toArray dn7, dsl7⟩)
    (l7 : K.lookup f7 = some ⟨oc7, od7, .func (PySem.W.fnOf "__init__" "Plan.__init__" (defArgs s_Plan___init__) (defBody s_Plan___init__) (defScope s_Plan___init__) (.ref T7) kV7 dc7 pm7 an7 cd7 ct7), sl7⟩) (c7 : PySem.W.codeIn K cd7 "Plan.__init__" = true) (k7 : PySem.W.keepIn K (.ref f7) = true)
    (a7 : PySem.W.findIn K (.ref C_Plan) "__init__" = some (some (.ref f7))) (i7 : PySem.W.isFn K (.ref f7) = true)
    {f8 : Addr} {od8 an8 : Option Addr} {sl8 : Array (Option Value)} {oc8 kV8 dc8 pm8 cd8 ct8 : Value}
    (l8 : K.lookup f8 = some ⟨oc8, od8, .func (PySem.W.fnOf "__eq__" "Plan.__eq__" (defArgs s_Plan___eq__) (defBody s_Plan___eq__) (defScope s_Plan___eq__) .none kV8 dc8 pm8 an8 cd8 ct8), sl8⟩) (c8 : PySem.W.codeIn K cd8 "Plan.__eq__" = true) (k8 : PySem.W.keepIn K (.ref f8) = true)
    (a8 : PySem.W.findIn K (.ref C_Plan) "__eq__" = some (some (.ref f8))) (i8 : PySem.W.isFn K (.ref f8) = true)
    (spec : PySem.W.specialIn K (.builtin "object.__class__") "__get__" = some (some (.builtin "getset_descriptor.__get__"))) (takes : PySem.W.takesIn K (.builtin "object.__class__") = some true)
    (kit_InvalidPlan_RingError : PySem.W.kitOne K (.ref C_InvalidPlan) (.ref C_RingError) = some true)
    (kit_InvalidPlan_InvalidBlock : PySem.W.kitOne K (.ref C_InvalidPlan) (.ref C_InvalidBlock) = some false)
    (kit_Plan_Block : PySem.W.kitOne K (.ref C_Plan) (.ref C_Block) = some false)
    (kit_Lane_Block : PySem.W.kitOne K (.ref C_Lane) (.ref C_Block) = some false)
    {A_WAYS : Addr} {dd_WAYS : Option Addr} {n_WAYS : Nat} {sl_WAYS : Array (Option Value)} {t_WAYS0 : Tok} {t_WAYS1 : Tok}
    (a_WAYS : PySem.W.nsIn K mainGlobals "WAYS" = some (some (.ref A_WAYS))) (l_WAYS : K.lookup A_WAYS = some ⟨.type "tuple", dd_WAYS, .seq [Value.str "up" t_WAYS0, Value.str "down" t_WAYS1].toArray n_WAYS, sl_WAYS⟩)
    {A_SIGNS : Addr} {dd_SIGNS : Option Addr} {n_SIGNS : Nat} {sl_SIGNS : Array (Option Value)} {t_SIGNS0 : Tok} {t_SIGNS1 : Tok}
    (a_SIGNS : PySem.W.nsIn K mainGlobals "SIGNS" = some (some (.ref A_SIGNS))) (l_SIGNS : K.lookup A_SIGNS = some ⟨.type "tuple", dd_SIGNS, .seq [Value.str "+" t_SIGNS0, Value.str "-" t_SIGNS1].toArray n_SIGNS, sl_SIGNS⟩)
    {A_DEEDS : Addr} {dd_DEEDS : Option Addr} {n_DEEDS : Nat} {sl_DEEDS : Array (Option Value)} {t_DEEDS0 : Tok} {t_DEEDS1 : Tok}
    (a_DEEDS : PySem.W.nsIn K mainGlobals "DEEDS" = some (some (.ref A_DEEDS))) (l_DEEDS : K.lookup A_DEEDS = some ⟨.type "tuple", dd_DEEDS, .seq [Value.str "add" t_DEEDS0, Value.str "put" t_DEEDS1].toArray n_DEEDS, sl_DEEDS⟩)
    {f9 : Addr} {od9 an9 : Option Addr} {sl9 : Array (Option Value)} {oc9 kV9 dc9 pm9 cd9 ct9 : Value}
    (l9 : K.lookup f9 = some ⟨oc9, od9, .func (PySem.W.fnOf "is_whole" "is_whole" (defArgs s_is_whole) (defBody s_is_whole) (defScope s_is_whole) .none kV9 dc9 pm9 an9 cd9 ct9), sl9⟩) (c9 : PySem.W.codeIn K cd9 "is_whole" = true) (k9 : PySem.W.keepIn K (.ref f9) = true)
    (a9 : PySem.W.nsIn K mainGlobals "is_whole" = some (some (.ref f9)))
    {f10 : Addr} {od10 an10 : Option Addr} {sl10 : Array (Option Value)} {oc10 kV10 dc10 pm10 cd10 ct10 : Value}
    (l10 : K.lookup f10 = some ⟨oc10, od10, .func (PySem.W.fnOf "is_sequence" "is_sequence" (defArgs s_is_sequence) (defBody s_is_sequence) (defScope s_is_sequence) .none kV10 dc10 pm10 an10 cd10 ct10), sl10⟩) (c10 : PySem.W.codeIn K cd10 "is_sequence" = true) (k10 : PySem.W.keepIn K (.ref f10) = true)
    (a10 : PySem.W.nsIn K mainGlobals "is_sequence" = some (some (.ref f10)))
    {f11 : Addr} {od11 an11 : Option Addr} {sl11 : Array (Option Value)} {oc11 kV11 dc11 pm11 cd11 ct11 : Value}
    (l11 : K.lookup f11 = some ⟨oc11, od11, .func (PySem.W.fnOf "_law_box" "_law_box" (defArgs s__law_box) (defBody s__law_box) (defScope s__law_box) .none kV11 dc11 pm11 an11 cd11 ct11), sl11⟩) (c11 : PySem.W.codeIn K cd11 "_law_box" = true) (k11 : PySem.W.keepIn K (.ref f11) = true)
    (a11 : PySem.W.nsIn K mainGlobals "_law_box" = some (some (.ref f11)))
    {f12 : Addr} {od12 an12 : Option Addr} {sl12 : Array (Option Value)} {oc12 kV12 dc12 pm12 cd12 ct12 : Value}
    (l12 : K.lookup f12 = some ⟨oc12, od12, .func (PySem.W.fnOf "_law_take" "_law_take" (defArgs s__law_take) (defBody s__law_take) (defScope s__law_take) .none kV12 dc12 pm12 an12 cd12 ct12), sl12⟩) (c12 : PySem.W.codeIn K cd12 "_law_take" = true) (k12 : PySem.W.keepIn K (.ref f12) = true)
    (a12 : PySem.W.nsIn K mainGlobals "_law_take" = some (some (.ref f12)))
    {f13 : Addr} {od13 an13 : Option Addr} {sl13 : Array (Option Value)} {oc13 kV13 dc13 pm13 cd13 ct13 : Value}
    (l13 : K.lookup f13 = some ⟨oc13, od13, .func (PySem.W.fnOf "_law_pick" "_law_pick" (defArgs s__law_pick) (defBody s__law_pick) (defScope s__law_pick) .none kV13 dc13 pm13 an13 cd13 ct13), sl13⟩) (c13 : PySem.W.codeIn K cd13 "_law_pick" = true) (k13 : PySem.W.keepIn K (.ref f13) = true)
    (a13 : PySem.W.nsIn K mainGlobals "_law_pick" = some (some (.ref f13)))
    {f14 : Addr} {od14 an14 : Option Addr} {sl14 : Array (Option Value)} {oc14 kV14 dc14 pm14 cd14 ct14 : Value}
    (l14 : K.lookup f14 = some ⟨oc14, od14, .func (PySem.W.fnOf "_law_form" "_law_form" (defArgs s__law_form) (defBody s__law_form) (defScope s__law_form) .none kV14 dc14 pm14 an14 cd14 ct14), sl14⟩) (c14 : PySem.W.codeIn K cd14 "_law_form" = true) (k14 : PySem.W.keepIn K (.ref f14) = true)
    (a14 : PySem.W.nsIn K mainGlobals "_law_form" = some (some (.ref f14)))
    {f15 : Addr} {od15 an15 : Option Addr} {sl15 : Array (Option Value)} {oc15 kV15 dc15 pm15 cd15 ct15 : Value}
    (l15 : K.lookup f15 = some ⟨oc15, od15, .func (PySem.W.fnOf "_law_lane" "_law_lane" (defArgs s__law_lane) (defBody s__law_lane) (defScope s__law_lane) .none kV15 dc15 pm15 an15 cd15 ct15), sl15⟩) (c15 : PySem.W.codeIn K cd15 "_law_lane" = true) (k15 : PySem.W.keepIn K (.ref f15) = true)
    (a15 : PySem.W.nsIn K mainGlobals "_law_lane" = some (some (.ref f15)))
    {f16 : Addr} {od16 an16 : Option Addr} {sl16 : Array (Option Value)} {oc16 kV16 dc16 pm16 cd16 ct16 : Value}
    (l16 : K.lookup f16 = some ⟨oc16, od16, .func (PySem.W.fnOf "_law_block" "_law_block" (defArgs s__law_block) (defBody s__law_block) (defScope s__law_block) .none kV16 dc16 pm16 an16 cd16 ct16), sl16⟩) (c16 : PySem.W.codeIn K cd16 "_law_block" = true) (k16 : PySem.W.keepIn K (.ref f16) = true)
    (a16 : PySem.W.nsIn K mainGlobals "_law_block" = some (some (.ref f16)))
    {f17 : Addr} {od17 an17 : Option Addr} {sl17 : Array (Option Value)} {oc17 kV17 dc17 pm17 cd17 ct17 : Value}
    (l17 : K.lookup f17 = some ⟨oc17, od17, .func (PySem.W.fnOf "_law_known_plan" "_law_known_plan" (defArgs s__law_known_plan) (defBody s__law_known_plan) (defScope s__law_known_plan) .none kV17 dc17 pm17 an17 cd17 ct17), sl17⟩) (c17 : PySem.W.codeIn K cd17 "_law_known_plan" = true) (k17 : PySem.W.keepIn K (.ref f17) = true)
    (a17 : PySem.W.nsIn K mainGlobals "_law_known_plan" = some (some (.ref f17)))
    {f18 : Addr} {od18 an18 : Option Addr} {sl18 : Array (Option Value)} {oc18 kV18 dc18 pm18 cd18 ct18 : Value}
    (l18 : K.lookup f18 = some ⟨oc18, od18, .func (PySem.W.fnOf "_law_plan" "_law_plan" (defArgs s__law_plan) (defBody s__law_plan) (defScope s__law_plan) .none kV18 dc18 pm18 an18 cd18 ct18), sl18⟩) (c18 : PySem.W.codeIn K cd18 "_law_plan" = true) (k18 : PySem.W.keepIn K (.ref f18) = true)
    (a18 : PySem.W.nsIn K mainGlobals "_law_plan" = some (some (.ref f18)))
    {f19 : Addr} {od19 an19 : Option Addr} {sl19 : Array (Option Value)} {oc19 kV19 dc19 pm19 cd19 ct19 : Value}
    (l19 : K.lookup f19 = some ⟨oc19, od19, .func (PySem.W.fnOf "_law_lane_of" "_law_lane_of" (defArgs s__law_lane_of) (defBody s__law_lane_of) (defScope s__law_lane_of) .none kV19 dc19 pm19 an19 cd19 ct19), sl19⟩) (c19 : PySem.W.codeIn K cd19 "_law_lane_of" = true) (k19 : PySem.W.keepIn K (.ref f19) = true)
    (a19 : PySem.W.nsIn K mainGlobals "_law_lane_of" = some (some (.ref f19)))
    {f20 : Addr} {od20 an20 : Option Addr} {sl20 : Array (Option Value)} {oc20 kV20 dc20 pm20 cd20 ct20 : Value}
    (l20 : K.lookup f20 = some ⟨oc20, od20, .func (PySem.W.fnOf "_law_plan_of" "_law_plan_of" (defArgs s__law_plan_of) (defBody s__law_plan_of) (defScope s__law_plan_of) .none kV20 dc20 pm20 an20 cd20 ct20), sl20⟩) (c20 : PySem.W.codeIn K cd20 "_law_plan_of" = true) (k20 : PySem.W.keepIn K (.ref f20) = true)
    (a20 : PySem.W.nsIn K mainGlobals "_law_plan_of" = some (some (.ref f20)))
    {f21 : Addr} {od21 an21 : Option Addr} {sl21 : Array (Option Value)} {oc21 kV21 dc21 pm21 cd21 ct21 : Value}
    (l21 : K.lookup f21 = some ⟨oc21, od21, .func (PySem.W.fnOf "_law_any" "_law_any" (defArgs s__law_any) (defBody s__law_any) (defScope s__law_any) .none kV21 dc21 pm21 an21 cd21 ct21), sl21⟩) (c21 : PySem.W.codeIn K cd21 "_law_any" = true) (k21 : PySem.W.keepIn K (.ref f21) = true)
    (a21 : PySem.W.nsIn K mainGlobals "_law_any" = some (some (.ref f21)))
    {f22 : Addr} {od22 an22 : Option Addr} {sl22 : Array (Option Value)} {oc22 kV22 dc22 pm22 cd22 ct22 : Value}
    (l22 : K.lookup f22 = some ⟨oc22, od22, .func (PySem.W.fnOf "_law_is_refused" "_law_is_refused" (defArgs s__law_is_refused) (defBody s__law_is_refused) (defScope s__law_is_refused) .none kV22 dc22 pm22 an22 cd22 ct22), sl22⟩) (c22 : PySem.W.codeIn K cd22 "_law_is_refused" = true) (k22 : PySem.W.keepIn K (.ref f22) = true)
    (a22 : PySem.W.nsIn K mainGlobals "_law_is_refused" = some (some (.ref f22)))
    {f23 : Addr} {od23 an23 : Option Addr} {sl23 : Array (Option Value)} {oc23 kV23 dc23 pm23 cd23 ct23 : Value}
    (l23 : K.lookup f23 = some ⟨oc23, od23, .func (PySem.W.fnOf "law" "law" (defArgs s_law) (defBody s_law) (defScope s_law) .none kV23 dc23 pm23 an23 cd23 ct23), sl23⟩) (c23 : PySem.W.codeIn K cd23 "law" = true) (k23 : PySem.W.keepIn K (.ref f23) = true)
    (a23 : PySem.W.nsIn K mainGlobals "law" = some (some (.ref f23)))
    (z_abs : PySem.W.nsIn K mainGlobals "abs" = some none)
    (z_all : PySem.W.nsIn K mainGlobals "all" = some none)
    (z_bool : PySem.W.nsIn K mainGlobals "bool" = some none)
    (z_int : PySem.W.nsIn K mainGlobals "int" = some none)
    (z_isinstance : PySem.W.nsIn K mainGlobals "isinstance" = some none)
    (z_len : PySem.W.nsIn K mainGlobals "len" = some none)
    (z_list : PySem.W.nsIn K mainGlobals "list" = some none)
    (z_max : PySem.W.nsIn K mainGlobals "max" = some none)
    (z_min : PySem.W.nsIn K mainGlobals "min" = some none)
    (z_range : PySem.W.nsIn K mainGlobals "range" = some none)
    (z_tuple : PySem.W.nsIn K mainGlobals "tuple" = some none)
    : ∃ fd : FuncData, (∀ (s : Shared) (v : Value), BindsTo s fd ⟨[v], []⟩ [("_law_script", v)]) ∧ ∀ base : Heap, K.In base → base.Ns mainGlobals mg → FnOk l.prog w K mg base CX0 9 fa fd ["_law_script"] (spLaw K) := by
  have e := hfa.symm.trans (PySem.W.mg_of X G a23)
  cases e
  let T : Txt K mg := {
    c_RingError := C_RingError, m_RingError := PySem.W.mg_of X G aC_RingError,
    c_InvalidBlock := C_InvalidBlock, m_InvalidBlock := PySem.W.mg_of X G aC_InvalidBlock,
    a_InvalidBlock___init__ := f0, d_InvalidBlock___init__ := _, F_InvalidBlock___init__ := fun_mk (st := s_InvalidBlock___init__) l0 c0 k0, b_InvalidBlock___init__ := (fun_mk (st := s_InvalidBlock___init__) l0 c0 k0).binds (ps := ["self", "word"]) (fun _ _ _ _ _ _ us hl => match us, hl with | [_, _], _ => rfl), k_InvalidBlock___init__ := k0,
    x_InvalidBlock := ⟨⟨_, _, _, _, _, _, _, _, _, _, _, _, _, _, _, xL_InvalidBlock, by first | rfl | decide +kernel⟩, sa_InvalidBlock, eC_InvalidBlock, tC_InvalidBlock, kC_InvalidBlock⟩, X_InvalidBlock := ⟨cl_InvalidBlock, ga_InvalidBlock, gg_InvalidBlock, eC_InvalidBlock, ca_InvalidBlock, spec, takes, mo_InvalidBlock⟩, f_InvalidBlock := ⟨ga_InvalidBlock, gg_InvalidBlock, eC_InvalidBlock, hC_InvalidBlock⟩,
    n_InvalidBlock := nw_InvalidBlock, i_InvalidBlock := iC_InvalidBlock, t_InvalidBlock := iT_InvalidBlock, e_InvalidBlock := PySem.W.exm_ref eC_InvalidBlock hC_InvalidBlock tC_InvalidBlock sC_InvalidBlock,
    c_InvalidPlan := C_InvalidPlan, m_InvalidPlan := PySem.W.mg_of X G aC_InvalidPlan,
    q_InvalidPlan := xq_InvalidPlan, k_InvalidPlan := kC_InvalidPlan, r1_InvalidPlan := eC_InvalidPlan, r2_InvalidPlan := tC_InvalidPlan, E_InvalidPlan := ⟨ga_InvalidPlan, gg_InvalidPlan, eC_InvalidPlan, hC_InvalidPlan, ca_InvalidPlan, spec, takes, mo_InvalidPlan⟩, e_InvalidPlan := PySem.W.exm_ref eC_InvalidPlan hC_InvalidPlan tC_InvalidPlan sC_InvalidPlan,
    c_Form := C_Form, m_Form := PySem.W.mg_of X G aC_Form,
    C_Form := ⟨pg_Form, hd_Form, po_Form, sa_Form⟩,
    n_Form_times := n_times_Form,
    n_Form_plus := n_plus_Form,
    n_Form_by := n_by_Form,
    I_Form := ⟨cl_Form, tC_Form, ca_Form, spec, takes, mo_Form⟩, N_Form := ⟨mo_N_Form, mo_S_Form, mo_T_Form, mo_L_Form, mo_I_Form⟩,
    a_Form___init__ := f1, d_Form___init__ := _, F_Form___init__ := (show FunD K "__init__" "Form.__init__" (defArgs s_Form___init__) (defBody s_Form___init__) (defScope s_Form___init__) [(.int 0), (.int 0), (.int 1)] [] _ _ from ⟨⟨_, _, _, _, _, _, _, _, _, _, rfl, l1, c1, .inr ⟨by simp, _, _, [Value.int 0 t1_0, Value.int 0 t1_1, Value.int 1 t1_2], _, rfl, t1, rfl, by repeat (first | exact .nil | refine .cons ⟨_, rfl⟩ ?_ | refine .cons rfl ?_)⟩, .inl rfl⟩, k1⟩), b_Form___init__ := (by obtain ⟨ds, rv, bb⟩ := (show FunD K "__init__" "Form.__init__" (defArgs s_Form___init__) (defBody s_Form___init__) (defScope s_Form___init__) [(.int 0), (.int 0), (.int 1)] [] _ _ from ⟨⟨_, _, _, _, _, _, _, _, _, _, rfl, l1, c1, .inr ⟨by simp, _, _, [Value.int 0 t1_0, Value.int 0 t1_1, Value.int 1 t1_2], _, rfl, t1, rfl, by repeat (first | exact .nil | refine .cons ⟨_, rfl⟩ ?_ | refine .cons rfl ?_)⟩, .inl rfl⟩, k1⟩).binds1 (ps := ["self", "times", "plus", "by"]) 4 3 (by simp) rfl (fun _ _ _ _ _ _ _ us its hl hi => match us, its, hl, hi with | [_, _, _, _], [_, _, _], _, _ => ⟨_, rfl, rfl⟩); cases rv; exact bb), k_Form___init__ := k1,
    M_Form := ⟨mk_Form, a1, i1, kc_Form⟩,
    a_Form___eq__ := f2, d_Form___eq__ := _, F_Form___eq__ := fun_mk (st := s_Form___eq__) l2 c2 k2, b_Form___eq__ := (fun_mk (st := s_Form___eq__) l2 c2 k2).binds (ps := ["self", "other"]) (fun _ _ _ _ _ _ us hl => match us, hl with | [_, _], _ => rfl), k_Form___eq__ := k2,
    O_Form := ⟨a2, i2, nE_Form, mo_Form⟩,
    c_Lane := C_Lane, m_Lane := PySem.W.mg_of X G aC_Lane,
    C_Lane := ⟨pg_Lane, hd_Lane, po_Lane, sa_Lane⟩,
    n_Lane_way := n_way_Lane,
    n_Lane_sign := n_sign_Lane,
    n_Lane_shift := n_shift_Lane,
    n_Lane_deed := n_deed_Lane,
    I_Lane := ⟨cl_Lane, tC_Lane, ca_Lane, spec, takes, mo_Lane⟩, N_Lane := ⟨mo_N_Lane, mo_S_Lane, mo_T_Lane, mo_L_Lane, mo_I_Lane⟩,
    a_Lane___init__ := f3, d_Lane___init__ := _, F_Lane___init__ := fun_mk (st := s_Lane___init__) l3 c3 k3, b_Lane___init__ := (fun_mk (st := s_Lane___init__) l3 c3 k3).binds (ps := ["self", "way", "sign", "shift", "deed"]) (fun _ _ _ _ _ _ us hl => match us, hl with | [_, _, _, _, _], _ => rfl), k_Lane___init__ := k3,
    M_Lane := ⟨mk_Lane, a3, i3, kc_Lane⟩,
    a_Lane___eq__ := f4, d_Lane___eq__ := _, F_Lane___eq__ := fun_mk (st := s_Lane___eq__) l4 c4 k4, b_Lane___eq__ := (fun_mk (st := s_Lane___eq__) l4 c4 k4).binds (ps := ["self", "other"]) (fun _ _ _ _ _ _ us hl => match us, hl with | [_, _], _ => rfl), k_Lane___eq__ := k4,
    O_Lane := ⟨a4, i4, nE_Lane, mo_Lane⟩,
    c_Block := C_Block, m_Block := PySem.W.mg_of X G aC_Block,
    C_Block := ⟨pg_Block, hd_Block, po_Block, sa_Block⟩,
    n_Block_rounds := n_rounds_Block,
    n_Block_lanes := n_lanes_Block,
    I_Block := ⟨cl_Block, tC_Block, ca_Block, spec, takes, mo_Block⟩, N_Block := ⟨mo_N_Block, mo_S_Block, mo_T_Block, mo_L_Block, mo_I_Block⟩,
    a_Block___init__ := f5, d_Block___init__ := _, F_Block___init__ := fun_mk (st := s_Block___init__) l5 c5 k5, b_Block___init__ := (fun_mk (st := s_Block___init__) l5 c5 k5).binds (ps := ["self", "rounds", "lanes"]) (fun _ _ _ _ _ _ us hl => match us, hl with | [_, _, _], _ => rfl), k_Block___init__ := k5,
    M_Block := ⟨mk_Block, a5, i5, kc_Block⟩,
    a_Block___eq__ := f6, d_Block___eq__ := _, F_Block___eq__ := fun_mk (st := s_Block___eq__) l6 c6 k6, b_Block___eq__ := (fun_mk (st := s_Block___eq__) l6 c6 k6).binds (ps := ["self", "other"]) (fun _ _ _ _ _ _ us hl => match us, hl with | [_, _], _ => rfl), k_Block___eq__ := k6,
    O_Block := ⟨a6, i6, nE_Block, mo_Block⟩,
    c_Plan := C_Plan, m_Plan := PySem.W.mg_of X G aC_Plan,
    C_Plan := ⟨pg_Plan, hd_Plan, po_Plan, sa_Plan⟩,
    n_Plan_blocks := n_blocks_Plan,
    n_Plan_found := n_found_Plan,
    I_Plan := ⟨cl_Plan, tC_Plan, ca_Plan, spec, takes, mo_Plan⟩, N_Plan := ⟨mo_N_Plan, mo_S_Plan, mo_T_Plan, mo_L_Plan, mo_I_Plan⟩,
    e_Plan___init___0 := eD_Plan___init___0,
    a_Plan___init__ := f7, d_Plan___init__ := _, F_Plan___init__ := (show FunD K "__init__" "Plan.__init__" (defArgs s_Plan___init__) (defBody s_Plan___init__) (defScope s_Plan___init__) [(.ref eD_Plan___init___0)] [] _ _ from ⟨⟨_, _, _, _, _, _, _, _, _, _, rfl, l7, c7, .inr ⟨by simp, _, _, [Value.ref eD_Plan___init___0], _, rfl, t7, rfl, by repeat (first | exact .nil | refine .cons ⟨_, rfl⟩ ?_ | refine .cons rfl ?_)⟩, .inl rfl⟩, k7⟩), b_Plan___init__ := (by obtain ⟨ds, rv, bb⟩ := (show FunD K "__init__" "Plan.__init__" (defArgs s_Plan___init__) (defBody s_Plan___init__) (defScope s_Plan___init__) [(.ref eD_Plan___init___0)] [] _ _ from ⟨⟨_, _, _, _, _, _, _, _, _, _, rfl, l7, c7, .inr ⟨by simp, _, _, [Value.ref eD_Plan___init___0], _, rfl, t7, rfl, by repeat (first | exact .nil | refine .cons ⟨_, rfl⟩ ?_ | refine .cons rfl ?_)⟩, .inl rfl⟩, k7⟩).binds1 (ps := ["self", "blocks"]) 2 1 (by simp) rfl (fun _ _ _ _ _ _ _ us its hl hi => match us, its, hl, hi with | [_, _], [_], _, _ => ⟨_, rfl, rfl⟩); cases rv; exact bb), k_Plan___init__ := k7,
    M_Plan := ⟨mk_Plan, a7, i7, kc_Plan⟩,
    a_Plan___eq__ := f8, d_Plan___eq__ := _, F_Plan___eq__ := fun_mk (st := s_Plan___eq__) l8 c8 k8, b_Plan___eq__ := (fun_mk (st := s_Plan___eq__) l8 c8 k8).binds (ps := ["self", "other"]) (fun _ _ _ _ _ _ us hl => match us, hl with | [_, _], _ => rfl), k_Plan___eq__ := k8,
    O_Plan := ⟨a8, i8, nE_Plan, mo_Plan⟩,
    kit_InvalidPlan_RingError := kit_InvalidPlan_RingError,
    kit_InvalidPlan_InvalidBlock := kit_InvalidPlan_InvalidBlock,
    kit_Plan_Block := kit_Plan_Block,
    kit_Lane_Block := kit_Lane_Block,
    A_WAYS := A_WAYS, m_WAYS := PySem.W.mg_of X G a_WAYS, s_WAYS := fun H => .inr ⟨_, _, _, l_WAYS, rfl, rfl, by show 2 ≤ sizeLine; decide, by repeat (first | exact .nil | refine .cons ⟨_, rfl⟩ ?_)⟩,
    A_SIGNS := A_SIGNS, m_SIGNS := PySem.W.mg_of X G a_SIGNS, s_SIGNS := fun H => .inr ⟨_, _, _, l_SIGNS, rfl, rfl, by show 2 ≤ sizeLine; decide, by repeat (first | exact .nil | refine .cons ⟨_, rfl⟩ ?_)⟩,
    A_DEEDS := A_DEEDS, m_DEEDS := PySem.W.mg_of X G a_DEEDS, s_DEEDS := fun H => .inr ⟨_, _, _, l_DEEDS, rfl, rfl, by show 2 ≤ sizeLine; decide, by repeat (first | exact .nil | refine .cons ⟨_, rfl⟩ ?_)⟩,
    a_is_whole := f9, d_is_whole := _, F_is_whole := fun_mk (st := s_is_whole) l9 c9 k9, b_is_whole := (fun_mk (st := s_is_whole) l9 c9 k9).binds (ps := ["value"]) (fun _ _ _ _ _ _ us hl => match us, hl with | [_], _ => rfl), k_is_whole := k9,
    m_is_whole := PySem.W.mg_of X G a9,
    a_is_sequence := f10, d_is_sequence := _, F_is_sequence := fun_mk (st := s_is_sequence) l10 c10 k10, b_is_sequence := (fun_mk (st := s_is_sequence) l10 c10 k10).binds (ps := ["value"]) (fun _ _ _ _ _ _ us hl => match us, hl with | [_], _ => rfl), k_is_sequence := k10,
    m_is_sequence := PySem.W.mg_of X G a10,
    a__law_box := f11, d__law_box := _, F__law_box := fun_mk (st := s__law_box) l11 c11 k11, b__law_box := (fun_mk (st := s__law_box) l11 c11 k11).binds (ps := ["_law_script", "_law_k"]) (fun _ _ _ _ _ _ us hl => match us, hl with | [_, _], _ => rfl), k__law_box := k11,
    m__law_box := PySem.W.mg_of X G a11,
    a__law_take := f12, d__law_take := _, F__law_take := fun_mk (st := s__law_take) l12 c12 k12, b__law_take := (fun_mk (st := s__law_take) l12 c12 k12).binds (ps := ["_law_box_here", "_law_many"]) (fun _ _ _ _ _ _ us hl => match us, hl with | [_, _], _ => rfl), k__law_take := k12,
    m__law_take := PySem.W.mg_of X G a12,
    a__law_pick := f13, d__law_pick := _, F__law_pick := fun_mk (st := s__law_pick) l13 c13 k13, b__law_pick := (fun_mk (st := s__law_pick) l13 c13 k13).binds (ps := ["_law_box_here", "_law_some"]) (fun _ _ _ _ _ _ us hl => match us, hl with | [_, _], _ => rfl), k__law_pick := k13,
    m__law_pick := PySem.W.mg_of X G a13,
    a__law_form := f14, d__law_form := _, F__law_form := fun_mk (st := s__law_form) l14 c14 k14, b__law_form := (fun_mk (st := s__law_form) l14 c14 k14).binds (ps := ["_law_box_here", "_law_far"]) (fun _ _ _ _ _ _ us hl => match us, hl with | [_, _], _ => rfl), k__law_form := k14,
    m__law_form := PySem.W.mg_of X G a14,
    a__law_lane := f15, d__law_lane := _, F__law_lane := fun_mk (st := s__law_lane) l15 c15 k15, b__law_lane := (fun_mk (st := s__law_lane) l15 c15 k15).binds (ps := ["_law_box_here", "_law_far"]) (fun _ _ _ _ _ _ us hl => match us, hl with | [_, _], _ => rfl), k__law_lane := k15,
    m__law_lane := PySem.W.mg_of X G a15,
    a__law_block := f16, d__law_block := _, F__law_block := fun_mk (st := s__law_block) l16 c16 k16, b__law_block := (fun_mk (st := s__law_block) l16 c16 k16).binds (ps := ["_law_box_here", "_law_lanes", "_law_far"]) (fun _ _ _ _ _ _ us hl => match us, hl with | [_, _, _], _ => rfl), k__law_block := k16,
    m__law_block := PySem.W.mg_of X G a16,
    a__law_known_plan := f17, d__law_known_plan := _, F__law_known_plan := fun_mk (st := s__law_known_plan) l17 c17 k17, b__law_known_plan := (fun_mk (st := s__law_known_plan) l17 c17 k17).binds (ps := ["_law_box_here"]) (fun _ _ _ _ _ _ us hl => match us, hl with | [_], _ => rfl), k__law_known_plan := k17,
    m__law_known_plan := PySem.W.mg_of X G a17,
    a__law_plan := f18, d__law_plan := _, F__law_plan := fun_mk (st := s__law_plan) l18 c18 k18, b__law_plan := (fun_mk (st := s__law_plan) l18 c18 k18).binds (ps := ["_law_box_here", "_law_blocks", "_law_lanes", "_law_far"]) (fun _ _ _ _ _ _ us hl => match us, hl with | [_, _, _, _], _ => rfl), k__law_plan := k18,
    m__law_plan := PySem.W.mg_of X G a18,
    a__law_lane_of := f19, d__law_lane_of := _, F__law_lane_of := fun_mk (st := s__law_lane_of) l19 c19 k19, b__law_lane_of := (fun_mk (st := s__law_lane_of) l19 c19 k19).binds (ps := ["_law_lane_here"]) (fun _ _ _ _ _ _ us hl => match us, hl with | [_], _ => rfl), k__law_lane_of := k19,
    m__law_lane_of := PySem.W.mg_of X G a19,
    a__law_plan_of := f20, d__law_plan_of := _, F__law_plan_of := fun_mk (st := s__law_plan_of) l20 c20 k20, b__law_plan_of := (fun_mk (st := s__law_plan_of) l20 c20 k20).binds (ps := ["_law_plan_here"]) (fun _ _ _ _ _ _ us hl => match us, hl with | [_], _ => rfl), k__law_plan_of := k20,
    m__law_plan_of := PySem.W.mg_of X G a20,
    a__law_any := f21, d__law_any := _, F__law_any := fun_mk (st := s__law_any) l21 c21 k21, b__law_any := (fun_mk (st := s__law_any) l21 c21 k21).binds (ps := ["_law_box_here", "_law_deep"]) (fun _ _ _ _ _ _ us hl => match us, hl with | [_, _], _ => rfl), k__law_any := k21,
    m__law_any := PySem.W.mg_of X G a21,
    a__law_is_refused := f22, d__law_is_refused := _, F__law_is_refused := fun_mk (st := s__law_is_refused) l22 c22 k22, b__law_is_refused := (fun_mk (st := s__law_is_refused) l22 c22 k22).binds (ps := ["_law_value"]) (fun _ _ _ _ _ _ us hl => match us, hl with | [_], _ => rfl), k__law_is_refused := k22,
    m__law_is_refused := PySem.W.mg_of X G a22,
    a_law := fa, d_law := _, F_law := fun_mk (st := s_law) l23 c23 k23, b_law := (fun_mk (st := s_law) l23 c23 k23).binds (ps := ["_law_script"]) (fun _ _ _ _ _ _ us hl => match us, hl with | [_], _ => rfl), k_law := k23,
    m_law := PySem.W.mg_of X G a23,
    z_abs := PySem.W.mg_none_of X G z_abs, z_all := PySem.W.mg_none_of X G z_all, z_bool := PySem.W.mg_none_of X G z_bool, z_int := PySem.W.mg_none_of X G z_int, z_isinstance := PySem.W.mg_none_of X G z_isinstance, z_len := PySem.W.mg_none_of X G z_len, z_list := PySem.W.mg_none_of X G z_list, z_max := PySem.W.mg_none_of X G z_max, z_min := PySem.W.mg_none_of X G z_min, z_range := PySem.W.mg_none_of X G z_range, z_tuple := PySem.W.mg_none_of X G z_tuple }
  exact ⟨PySem.W.fnOf "law" "law" (defArgs s_law) (defBody s_law) (defScope s_law) .none kV23 dc23 pm23 an23 cd23 ct23, fun s v => .of_eq rfl, fun base _ _ => ok_law T⟩
end K08
open PySem PySem.W PyProof.Rows
set_option maxHeartbeats 0 in
theorem PySem.Challenge.cw_ringsums_k08_plans_refused_holds : PySem.Challenge.rw_ringsums_k08_plans_refused.Holds := by
  w_on; o_law; k_head; (case hw => w_witness2)
  k_fill
  refine L2.walk_of (l := PySem.Challenge.rw_ringsums_k08_plans_refused) (n := 63) (k := 9) (x := "_law_script") (CX := fun _ => L2.CX0) (sp := fun w => K08.spLaw _) rfl (by decide) rfl ⟨rfl, by decide, by decide⟩ (fun w h Y => PySem.W.kIn_of Y) ?F (fun _ _ a ns hl _ hS => ⟨a, ns, rfl, hS, hl, fun _ => rfl⟩) (fun _ _ _ _ _ h => h)
  case F =>
    intro w mg fa h KX G hmg
    refine' K08.all_mk KX G hmg ?aC_RingError ?aC_InvalidBlock ?xL_InvalidBlock ?sa_InvalidBlock ?ga_InvalidBlock ?gg_InvalidBlock ?nw_InvalidBlock ?ca_InvalidBlock ?kC_InvalidBlock ?eC_InvalidBlock ?tC_InvalidBlock ?hC_InvalidBlock ?sC_InvalidBlock ?mo_InvalidBlock ?cl_InvalidBlock ?l0 ?c0 ?k0 ?iC_InvalidBlock ?iT_InvalidBlock ?aC_InvalidPlan ?xq_InvalidPlan ?ga_InvalidPlan ?gg_InvalidPlan ?ca_InvalidPlan ?kC_InvalidPlan ?eC_InvalidPlan ?tC_InvalidPlan ?hC_InvalidPlan ?sC_InvalidPlan ?mo_InvalidPlan ?aC_Form ?pg_Form ?hd_Form ?po_Form ?sa_Form ?mk_Form ?kc_Form ?n_times_Form ?n_plus_Form ?n_by_Form ?cl_Form ?tC_Form ?ca_Form ?mo_Form ?nE_Form ?mo_N_Form ?mo_S_Form ?mo_T_Form ?mo_L_Form ?mo_I_Form ?t1 ?l1 ?c1 ?k1 ?a1 ?i1 ?l2 ?c2 ?k2 ?a2 ?i2 ?aC_Lane ?pg_Lane ?hd_Lane ?po_Lane ?sa_Lane ?mk_Lane ?kc_Lane ?n_way_Lane ?n_sign_Lane ?n_shift_Lane ?n_deed_Lane ?cl_Lane ?tC_Lane ?ca_Lane ?mo_Lane ?nE_Lane ?mo_N_Lane ?mo_S_Lane ?mo_T_Lane ?mo_L_Lane ?mo_I_Lane ?l3 ?c3 ?k3 ?a3 ?i3 ?l4 ?c4 ?k4 ?a4 ?i4 ?aC_Block ?pg_Block ?hd_Block ?po_Block ?sa_Block ?mk_Block ?kc_Block ?n_rounds_Block ?n_lanes_Block ?cl_Block ?tC_Block ?ca_Block ?mo_Block ?nE_Block ?mo_N_Block ?mo_S_Block ?mo_T_Block ?mo_L_Block ?mo_I_Block ?l5 ?c5 ?k5 ?a5 ?i5 ?l6 ?c6 ?k6 ?a6 ?i6 ?aC_Plan ?pg_Plan ?hd_Plan ?po_Plan ?sa_Plan ?mk_Plan ?kc_Plan ?n_blocks_Plan ?n_found_Plan ?cl_Plan ?tC_Plan ?ca_Plan ?mo_Plan ?nE_Plan ?mo_N_Plan ?mo_S_Plan ?mo_T_Plan ?mo_L_Plan ?mo_I_Plan ?t7 ?l7 ?c7 ?k7 ?a7 ?i7 ?l8 ?c8 ?k8 ?a8 ?i8 ?spec ?takes ?kit_InvalidPlan_RingError ?kit_InvalidPlan_InvalidBlock ?kit_Plan_Block ?kit_Lane_Block ?a_WAYS ?l_WAYS ?a_SIGNS ?l_SIGNS ?a_DEEDS ?l_DEEDS ?l9 ?c9 ?k9 ?a9 ?l10 ?c10 ?k10 ?a10 ?l11 ?c11 ?k11 ?a11 ?l12 ?c12 ?k12 ?a12 ?l13 ?c13 ?k13 ?a13 ?l14 ?c14 ?k14 ?a14 ?l15 ?c15 ?k15 ?a15 ?l16 ?c16 ?k16 ?a16 ?l17 ?c17 ?k17 ?a17 ?l18 ?c18 ?k18 ?a18 ?l19 ?c19 ?k19 ?a19 ?l20 ?c20 ?k20 ?a20 ?l21 ?c21 ?k21 ?a21 ?l22 ?c22 ?k22 ?a22 ?l23 ?c23 ?k23 ?a23 ?z_abs ?z_all ?z_bool ?z_int ?z_isinstance ?z_len ?z_list ?z_max ?z_min ?z_range ?z_tuple
    (case aC_RingError => k_is)
    (case aC_InvalidBlock => k_is)
    (case aC_InvalidPlan => k_is)
    (case aC_Form => k_is)
    (case aC_Lane => k_is)
    (case aC_Block => k_is)
    (case aC_Plan => k_is)
    (case a_WAYS => k_is)
    (case a_SIGNS => k_is)
    (case a_DEEDS => k_is)
    (case iC_InvalidBlock => k_is)
    (case a1 => k_is)
    (case a2 => k_is)
    (case a3 => k_is)
    (case a4 => k_is)
    (case a5 => k_is)
    (case a6 => k_is)
    (case a7 => k_is)
    (case a8 => k_is)
    (case a9 => k_is)
    (case a10 => k_is)
    (case a11 => k_is)
    (case a12 => k_is)
    (case a13 => k_is)
    (case a14 => k_is)
    (case a15 => k_is)
    (case a16 => k_is)
    (case a17 => k_is)
    (case a18 => k_is)
    (case a19 => k_is)
    (case a20 => k_is)
    (case a21 => k_is)
    (case a22 => k_is)
    (case a23 => k_is)
    (case xL_InvalidBlock => k_is)
    (case l0 => k_is)
    (case l1 => k_is)
    (case l2 => k_is)
    (case l3 => k_is)
    (case l4 => k_is)
    (case l5 => k_is)
    (case l6 => k_is)
    (case l7 => k_is)
    (case l8 => k_is)
    (case l_WAYS => k_is)
    (case l_SIGNS => k_is)
    (case l_DEEDS => k_is)
    (case l9 => k_is)
    (case l10 => k_is)
    (case l11 => k_is)
    (case l12 => k_is)
    (case l13 => k_is)
    (case l14 => k_is)
    (case l15 => k_is)
    (case l16 => k_is)
    (case l17 => k_is)
    (case l18 => k_is)
    (case l19 => k_is)
    (case l20 => k_is)
    (case l21 => k_is)
    (case l22 => k_is)
    (case l23 => k_is)
    (case sa_InvalidBlock => k_is)
    (case ga_InvalidBlock => k_is)
    (case gg_InvalidBlock => k_is)
    (case nw_InvalidBlock => k_is)
    (case ca_InvalidBlock => k_is)
    (case kC_InvalidBlock => k_is)
    (case eC_InvalidBlock => k_is)
    (case tC_InvalidBlock => first | rfl | k_is)
    (case hC_InvalidBlock => k_is)
    (case sC_InvalidBlock => first | rfl | k_is)
    (case mo_InvalidBlock => first | rfl | k_is)
    (case cl_InvalidBlock => first | rfl | k_is)
    (case c0 => k_is)
    (case k0 => k_is)
    (case iT_InvalidBlock => k_is)
    (case xq_InvalidPlan => k_exc)
    (case ga_InvalidPlan => k_is)
    (case gg_InvalidPlan => k_is)
    (case ca_InvalidPlan => k_is)
    (case kC_InvalidPlan => k_is)
    (case eC_InvalidPlan => k_is)
    (case tC_InvalidPlan => first | rfl | k_is)
    (case hC_InvalidPlan => k_is)
    (case sC_InvalidPlan => first | rfl | k_is)
    (case mo_InvalidPlan => first | rfl | k_is)
    (case pg_Form => k_is)
    (case hd_Form => k_is)
    (case po_Form => k_is)
    (case sa_Form => k_is)
    (case mk_Form => k_is)
    (case kc_Form => k_is)
    (case n_times_Form => k_is)
    (case n_plus_Form => k_is)
    (case n_by_Form => k_is)
    (case cl_Form => first | rfl | k_is)
    (case tC_Form => first | rfl | k_is)
    (case ca_Form => k_is)
    (case mo_Form => first | rfl | k_is)
    (case nE_Form => k_is)
    (case mo_N_Form => first | rfl | k_is)
    (case mo_S_Form => first | rfl | k_is)
    (case mo_T_Form => first | rfl | k_is)
    (case mo_L_Form => first | rfl | k_is)
    (case mo_I_Form => first | rfl | k_is)
    (case t1 => first | rfl | k_is)
    (case c1 => k_is)
    (case k1 => k_is)
    (case i1 => k_is)
    (case c2 => k_is)
    (case k2 => k_is)
    (case i2 => k_is)
    (case pg_Lane => k_is)
    (case hd_Lane => k_is)
    (case po_Lane => k_is)
    (case sa_Lane => k_is)
    (case mk_Lane => k_is)
    (case kc_Lane => k_is)
    (case n_way_Lane => k_is)
    (case n_sign_Lane => k_is)
    (case n_shift_Lane => k_is)
    (case n_deed_Lane => k_is)
    (case cl_Lane => first | rfl | k_is)
    (case tC_Lane => first | rfl | k_is)
    (case ca_Lane => k_is)
    (case mo_Lane => first | rfl | k_is)
    (case nE_Lane => k_is)
    (case mo_N_Lane => first | rfl | k_is)
    (case mo_S_Lane => first | rfl | k_is)
    (case mo_T_Lane => first | rfl | k_is)
    (case mo_L_Lane => first | rfl | k_is)
    (case mo_I_Lane => first | rfl | k_is)
    (case c3 => k_is)
    (case k3 => k_is)
    (case i3 => k_is)
    (case c4 => k_is)
    (case k4 => k_is)
    (case i4 => k_is)
    (case pg_Block => k_is)
    (case hd_Block => k_is)
    (case po_Block => k_is)
    (case sa_Block => k_is)
    (case mk_Block => k_is)
    (case kc_Block => k_is)
    (case n_rounds_Block => k_is)
    (case n_lanes_Block => k_is)
    (case cl_Block => first | rfl | k_is)
    (case tC_Block => first | rfl | k_is)
    (case ca_Block => k_is)
    (case mo_Block => first | rfl | k_is)
    (case nE_Block => k_is)
    (case mo_N_Block => first | rfl | k_is)
    (case mo_S_Block => first | rfl | k_is)
    (case mo_T_Block => first | rfl | k_is)
    (case mo_L_Block => first | rfl | k_is)
    (case mo_I_Block => first | rfl | k_is)
    (case c5 => k_is)
    (case k5 => k_is)
    (case i5 => k_is)
    (case c6 => k_is)
    (case k6 => k_is)
    (case i6 => k_is)
    (case pg_Plan => k_is)
    (case hd_Plan => k_is)
    (case po_Plan => k_is)
    (case sa_Plan => k_is)
    (case mk_Plan => k_is)
    (case kc_Plan => k_is)
    (case n_blocks_Plan => k_is)
    (case n_found_Plan => k_is)
    (case cl_Plan => first | rfl | k_is)
    (case tC_Plan => first | rfl | k_is)
    (case ca_Plan => k_is)
    (case mo_Plan => first | rfl | k_is)
    (case nE_Plan => k_is)
    (case mo_N_Plan => first | rfl | k_is)
    (case mo_S_Plan => first | rfl | k_is)
    (case mo_T_Plan => first | rfl | k_is)
    (case mo_L_Plan => first | rfl | k_is)
    (case mo_I_Plan => first | rfl | k_is)
    (case t7 => first | rfl | k_is)
    (case c7 => k_is)
    (case k7 => k_is)
    (case i7 => k_is)
    (case c8 => k_is)
    (case k8 => k_is)
    (case i8 => k_is)
    (case spec => first | rfl | k_is)
    (case takes => first | rfl | k_is)
    (case kit_InvalidPlan_RingError => first | rfl | k_is)
    (case kit_InvalidPlan_InvalidBlock => first | rfl | k_is)
    (case kit_Plan_Block => first | rfl | k_is)
    (case kit_Lane_Block => first | rfl | k_is)
    (case c9 => k_is)
    (case k9 => k_is)
    (case c10 => k_is)
    (case k10 => k_is)
    (case c11 => k_is)
    (case k11 => k_is)
    (case c12 => k_is)
    (case k12 => k_is)
    (case c13 => k_is)
    (case k13 => k_is)
    (case c14 => k_is)
    (case k14 => k_is)
    (case c15 => k_is)
    (case k15 => k_is)
    (case c16 => k_is)
    (case k16 => k_is)
    (case c17 => k_is)
    (case k17 => k_is)
    (case c18 => k_is)
    (case k18 => k_is)
    (case c19 => k_is)
    (case k19 => k_is)
    (case c20 => k_is)
    (case k20 => k_is)
    (case c21 => k_is)
    (case k21 => k_is)
    (case c22 => k_is)
    (case k22 => k_is)
    (case c23 => k_is)
    (case k23 => k_is)
    (case z_abs => k_is)
    (case z_all => k_is)
    (case z_bool => k_is)
    (case z_int => k_is)
    (case z_isinstance => k_is)
    (case z_len => k_is)
    (case z_list => k_is)
    (case z_max => k_is)
    (case z_min => k_is)
    (case z_range => k_is)
    (case z_tuple => k_is)
