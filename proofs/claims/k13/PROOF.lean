import PyProof.Rows.All
import Wide.All
import OpenK.AllK
import Wide.FinOn
import HandS.ForMost
import HandS.Wide
import HandS.Conv
import HandS.IsInst
import HandS.Walk
import HandS.TupAny
import HandS.TupMul
import HandS.TryOnly
import HandS.Style
import HandS.Flow
import HandS.Deep
import KE.GoesMore
import KE.GoesEnum
import HandS.Iter
import PySem.Challenge.RW_ringsums_k13_rows_cut_in_pieces
set_option Elab.async false
set_option linter.all false
set_option maxRecDepth 100000
set_option maxHeartbeats 4000000
namespace Rs
open PySem PySem.Spec PyProof.Rows L2

/-! ### what never changes: tuples, instances, their dicts -/
def frozen : HO → Prop
  | .tup _ => True
  | .ins _ _ _ => True
  | .own _ => True
  | .frz _ _ => True
  | _ => False
def Fz (H H' : Hp) : Prop := ∀ a o, frozen o → H a = some o → H' a = some o
theorem Fz.refl (H : Hp) : Fz H H := fun _ _ _ h => h
theorem Fz.trans {H H1 H2 : Hp} (a : Fz H H1) (b : Fz H1 H2) : Fz H H2 := fun x o f h => b x o f (a x o f h)
theorem Fz.of_same {H H' : Hp} (s : Same H H') : Fz H H' := fun a o _ h => s a o h
theorem same_new {H : Hp} {p : Addr} {o : HO} (h : H p = none) : Same H (upd H p o) := fun b x e => by
  rw [upd_ne (ne_of_none e h)]
  exact e
theorem Fz.new {H : Hp} {p : Addr} {o : HO} (h : H p = none) : Fz H (upd H p o) := Fz.of_same (same_new h)
theorem Fz.lst {H : Hp} {p : Addr} {xs : List V} {o : HO} (h : H p = some (.lst xs)) : Fz H (upd H p o) := fun a u f e => by
  have : a ≠ p := by
    rintro rfl
    rw [h] at e
    cases e
    exact f
  rw [upd_ne this]
  exact e

/-! ### data of tuples -/
mutual
inductive Dt (K : PySem.W.Frag) (H : Hp) : V → PyData → Prop
  | non : Dt K H .non .none
  | bl (b : Bool) : Dt K H (.bl b) (.bool b)
  | int (i : Int) : Dt K H (.int i) (.int i)
  | str (x : Str) : Dt K H (.str x) (.str x)
  | tup {a : Addr} {xs : List V} {ds : List PyData} : SqT K H a xs → DtAll K H xs ds → Dt K H (.ref a) (.tuple ds)
inductive DtAll (K : PySem.W.Frag) (H : Hp) : List V → List PyData → Prop
  | nil : DtAll K H [] []
  | cons {v : V} {vs : List V} {d : PyData} {ds : List PyData} : Dt K H v d → DtAll K H vs ds → DtAll K H (v :: vs) (d :: ds)
end
theorem Fz.sqT {K : PySem.W.Frag} {H H' : Hp} {a : Addr} {xs : List V} (e : Fz H H') (h : SqT K H a xs) : SqT K H' a xs := by
  rcases h with (h | ⟨o, h⟩) | h
  · exact .inl (.inl (e _ _ trivial h))
  · exact .inl (.inr ⟨o, e _ _ trivial h⟩)
  · exact .inr h
mutual
theorem Dt.mono {K : PySem.W.Frag} {H H' : Hp} (e : Fz H H') : ∀ {v : V} {d : PyData}, Dt K H v d → Dt K H' v d
  | _, _, .non => .non
  | _, _, .bl b => .bl b
  | _, _, .int i => .int i
  | _, _, .str x => .str x
  | _, _, .tup h hs => .tup (e.sqT h) (DtAll.mono e hs)
theorem DtAll.mono {K : PySem.W.Frag} {H H' : Hp} (e : Fz H H') : ∀ {v : List V} {d : List PyData}, DtAll K H v d → DtAll K H' v d
  | _, _, .nil => .nil
  | _, _, .cons h hs => .cons (h.mono e) (DtAll.mono e hs)
end
mutual
theorem Dt.dp {K : PySem.W.Frag} {H : Hp} : ∀ {v : V} {d : PyData}, Dt K H v d → Dp K H v d
  | _, _, .non => .non
  | _, _, .bl b => .bl b
  | _, _, .int i => .int i
  | _, _, .str x => .str x
  | _, _, .tup h hs => .tup h (DtAll.dp hs)
theorem DtAll.dp {K : PySem.W.Frag} {H : Hp} : ∀ {v : List V} {d : List PyData}, DtAll K H v d → DpAll K H v d
  | _, _, .nil => .nil
  | _, _, .cons h hs => .cons h.dp (DtAll.dp hs)
end
theorem DtAll.length {K : PySem.W.Frag} {H : Hp} : ∀ {v : List V} {d : List PyData}, DtAll K H v d → v.length = d.length
  | _, _, .nil => rfl
  | _, _, .cons _ hs => congrArg (· + 1) hs.length
theorem DtAll.append {K : PySem.W.Frag} {H : Hp} : ∀ {v w : List V} {d e : List PyData}, DtAll K H v d → DtAll K H w e → DtAll K H (v ++ w) (d ++ e)
  | _, _, _, _, .nil, k => k
  | _, _, _, _, .cons h hs, k => .cons h (hs.append k)
theorem DtAll.get {K : PySem.W.Frag} {H : Hp} : ∀ {v : List V} {d : List PyData} {i : Nat} {x : PyData}, DtAll K H v d → d[i]? = some x → ∃ y, v[i]? = some y ∧ Dt K H y x
  | _, _, i, x, .nil, e => by simp at e
  | _, _, 0, x, .cons h _, e => ⟨_, rfl, by
      have : _ = x := Option.some.inj e
      exact this ▸ h⟩
  | _, _, i + 1, x, .cons _ hs, e => by
    have e' := e
    simp only [List.getElem?_cons_succ] at e' ⊢
    exact hs.get e'
theorem DtAll.getV {K : PySem.W.Frag} {H : Hp} : ∀ {v : List V} {d : List PyData} {i : Nat} {y : V}, DtAll K H v d → v[i]? = some y → ∃ x, d[i]? = some x ∧ Dt K H y x
  | _, _, i, x, .nil, e => by simp at e
  | _, _, 0, x, .cons h _, e => ⟨_, rfl, by
      have : _ = x := Option.some.inj e
      exact this ▸ h⟩
  | _, _, i + 1, x, .cons _ hs, e => by
    have e' := e
    simp only [List.getElem?_cons_succ] at e' ⊢
    exact hs.getV e'

/-! ### the box of draws -/
structure BoxI (x y z : Int) : Prop where
  x0 : 0 ≤ x
  y1 : 1 ≤ y
  y2 : y ≤ 2147483629
def boxL (x y z : Int) : List V := [.int x, .int y, .int z]
def Box (H : Hp) (b : Addr) : Prop := ∃ x y z, H b = some (.lst (boxL x y z)) ∧ BoxI x y z
/-- all but the list at b is as it was -/
def But (b : Addr) (H H' : Hp) : Prop := ∀ a o, a ≠ b → H a = some o → H' a = some o
theorem But.refl (b : Addr) (H : Hp) : But b H H := fun _ _ _ h => h
theorem But.trans {b : Addr} {H H1 H2 : Hp} (x : But b H H1) (y : But b H1 H2) : But b H H2 := fun a o n h => y a o n (x a o n h)
theorem But.of_same {b : Addr} {H H' : Hp} (s : Same H H') : But b H H' := fun a o _ h => s a o h
theorem But.upd {b : Addr} {H H' : Hp} {o : HO} (s : But b H H') : But b H (upd H' b o) := fun a u n h => by
  rw [upd_ne n]
  exact s a u n h
theorem Box.same {b : Addr} {H H' : Hp} (x : Box H b) (s : Same H H') : Box H' b := by
  obtain ⟨x, y, z, h, i⟩ := x
  exact ⟨x, y, z, s _ _ h, i⟩
theorem Box.fz {b : Addr} {H H' : Hp} (x : Box H b) (s : But b H H') : Fz H H' := fun a o f h => by
  refine s a o ?_ h
  rintro rfl
  obtain ⟨x, y, z, h', i⟩ := x
  rw [h'] at h
  cases h
  exact f
theorem Box.ne_none {b p : Addr} {H : Hp} (x : Box H b) (h : H p = none) : p ≠ b := by
  rintro rfl
  obtain ⟨x, y, z, h', i⟩ := x
  rw [h] at h'
  cases h'
theorem ifB {b : Bool} {A B : Prop} (h1 : b = true → A) (h2 : b = false → B) : if b = true then A else B := by
  cases b with
  | true => rw [if_pos rfl]; exact h1 rfl
  | false => rw [if_neg Bool.false_ne_true]; exact h2 rfl
theorem ifD {c A B : Prop} [Decidable c] (h1 : c → A) (h2 : ¬ c → B) : if decide c = true then A else B := ifB (fun e => h1 (of_decide_eq_true e)) (fun e => h2 (of_decide_eq_false e))
theorem ifN {c A B : Prop} [Decidable c] (h1 : ¬ c → A) (h2 : c → B) : if (!decide c) = true then A else B := by
  by_cases h : c
  · rw [decide_eq_true h]; exact h2 h
  · rw [decide_eq_false h]; exact h1 h
theorem ifT {b : Bool} {A B : Prop} (e : b = true) (h1 : A) : if b = true then A else B := by rw [if_pos e]; exact h1
theorem ifF {b : Bool} {A B : Prop} (e : b = false) (h1 : B) : if b = true then A else B := by rw [e, if_neg Bool.false_ne_true]; exact h1
theorem szL {n : Nat} (h : n ≤ 1000) : n ≤ sizeLine := Nat.le_trans h (by decide)
theorem szl {n : Nat} (h : n ≤ 1000) : n < sizeLine := Nat.lt_of_le_of_lt h (by decide)
theorem atI_ok {xs : List V} {i : Int} {j : Nat} {v : V} (h0 : 0 ≤ i) (e : i.toNat = j) (h : xs[j]? = some v) : atI xs i = some v := at_of (by omega) h
theorem ints_at {ns : List Int} {k : Int} (h0 : 0 ≤ k) (h1 : k < ns.length) : ∃ z, atI (ns.map V.int) k = some (.int z) := by
  have h2 : k.toNat < ns.length := by omega
  exact ⟨ns[k.toNat], atI_ok h0 rfl (by rw [List.getElem?_map, List.getElem?_eq_getElem h2]; rfl)⟩
theorem range_succ_map {α : Type} (f : Nat → α) (i : Nat) : (List.range (i + 1)).map f = (List.range i).map f ++ [f i] := by
  rw [List.range_succ, List.map_append]; rfl
theorem DtAll.snoc {K : PySem.W.Frag} {H : Hp} {v : List V} {d : List PyData} {x : V} {y : PyData} (h : DtAll K H v d) (k : Dt K H x y) : DtAll K H (v ++ [x]) (d ++ [y]) := h.append (.cons k .nil)
theorem same_lst {H H' : Hp} {p : Addr} {o : HO} (s : Same H H') (n : H p = none) : Same H (upd H' p o) := fun a u e => by
  rw [upd_ne (ne_of_none e n)]
  exact s a u e
theorem natAbs_abs {i : Int} : 0 ≤ (if i < 0 then -i else i) := by split <;> omega
theorem pick2 (b : Bool) (u v : Int) : atI [.int u, .int v] (if b = true then 1 else 0) = some (V.int (if b = true then v else u)) := by
  cases b <;> rfl
theorem ite_ge0 {b : Bool} {u v : Int} (h1 : 0 ≤ u) (h2 : 0 ≤ v) : 0 ≤ (if b = true then v else u) := by cases b <;> assumption
theorem mem_at {xs : List V} {k : Int} (h0 : 0 ≤ k) (h1 : k < xs.length) : ∃ v, v ∈ xs ∧ atI xs k = some v := by
  have h2 : k.toNat < xs.length := by omega
  exact ⟨xs[k.toNat], List.getElem_mem h2, atI_ok h0 rfl (List.getElem?_eq_getElem h2)⟩
/-! reading tuples of data -/
def atD (ds : List PyData) (i : Int) : Option PyData := (ixN ds.length i).bind fun j => ds[j]?
theorem DtAll.at {K : PySem.W.Frag} {H : Hp} {xs : List V} {ds : List PyData} {i : Int} {d : PyData} (h : DtAll K H xs ds) (e : atD ds i = some d) : ∃ v, atI xs i = some v ∧ Dt K H v d := by
  unfold atD at e
  unfold atI
  rw [h.length]
  cases q : ixN ds.length i with
  | none => rw [q] at e; cases e
  | some j =>
    rw [q] at e
    exact h.get e
theorem rix_dt {K : PySem.W.Frag} {H : Hp} {v : V} {i : Int} {ds : List PyData} {d : PyData} {Q : VK} (h : Dt K H v (.tuple ds)) (e : atD ds i = some d) (q : ∀ y, Dt K H y d → Q y H) : rIxT K v (.int i) H Q := by
  cases h with
  | tup hs ha =>
    obtain ⟨y, h1, h2⟩ := ha.at e
    exact ⟨_, _, _, _, rfl, rfl, hs, h1, q y h2⟩
theorem Dt.int_eq {K : PySem.W.Frag} {H : Hp} {v : V} {i : Int} (h : Dt K H v (.int i)) : v = .int i := by cases h; rfl
theorem Dt.str_eq {K : PySem.W.Frag} {H : Hp} {v : V} {i : Str} (h : Dt K H v (.str i)) : v = .str i := by cases h; rfl
theorem atD_nat {ds : List PyData} {j : Nat} {d : PyData} (e : ds[j]? = some d) : atD ds ((j : Nat) : Int) = some d := by
  have h := (List.getElem?_eq_some_iff.mp e).1
  unfold atD ixN
  rw [if_pos (by omega), if_pos (by omega)]
  exact e
theorem atD_last {ds : List PyData} {d : PyData} (h : 0 < ds.length) (e : ds[ds.length - 1]? = some d) : atD ds (-1) = some d := by
  unfold atD ixN
  rw [if_neg (by omega), if_pos (by omega)]
  show ds[((-1 : Int) + ds.length).toNat]? = some d
  rw [show ((-1 : Int) + ds.length).toNat = ds.length - 1 by omega]
  exact e
def tyD : PyData → String
  | .none => "NoneType"
  | .bool _ => "bool"
  | .int _ => "int"
  | .str _ => "str"
  | .list _ => "list"
  | .tuple _ => "tuple"
  | .dict _ => "dict"
theorem sqT_ty {K : PySem.W.Frag} {H : Hp} {a : Addr} {xs : List V} (h : SqT K H a xs) : TyX K H (.ref a) (.type "tuple") := by
  rcases h with (h | ⟨o, h⟩) | ⟨o, its, n, h1, h2, _⟩
  · exact .base (.tup h)
  · exact .fTuple h
  · exact .kTuple h1 h2
theorem Dt.ty {K : PySem.W.Frag} {H : Hp} {v : V} {d : PyData} (h : Dt K H v d) : TyX K H v (.type (tyD d)) := by
  cases h with
  | non => exact .base .non
  | bl b => exact .base (.bl b)
  | int i => exact .base (.int i)
  | str x => exact .base (.str x)
  | tup h _ => exact sqT_ty h
theorem neF {a b : Int} (h : a = b) : (!decide (V.int a = V.int b)) = false := by rw [h]; simp
theorem Dt.len {K : PySem.W.Frag} {H : Hp} {a : Addr} {ds : List PyData} (h : Dt K H (.ref a) (.tuple ds)) : ∃ xs, SqT K H a xs ∧ xs.length = ds.length ∧ DtAll K H xs ds := by
  cases h with
  | tup h hs => exact ⟨_, h, hs.length, hs⟩

structure okD (k : Nat) (d : PyData) : Prop where
  lay : d.canLay0 = true
  dep : d.depth ≤ k
theorem okD.mono {k l : Nat} {d : PyData} (h : okD k d) (e : k ≤ l) : okD l d := ⟨h.lay, Nat.le_trans h.dep e⟩
theorem okD_all {k : Nat} : ∀ {ds : List PyData}, (∀ d ∈ ds, okD k d) → PyData.canLayAll0 ds = true ∧ PyData.depthAll ds ≤ k
  | [], _ => ⟨rfl, Nat.zero_le _⟩
  | d :: ds, h => by
    have h1 := h d List.mem_cons_self
    have h2 := okD_all (ds := ds) fun x hx => h x (List.mem_cons_of_mem _ hx)
    refine ⟨?_, ?_⟩
    · show (PyData.canLay0 d && PyData.canLayAll0 ds) = true
      rw [h1.lay, h2.1]; rfl
    · show max (PyData.depth d) (PyData.depthAll ds) ≤ k
      exact Nat.max_le.mpr ⟨h1.dep, h2.2⟩
theorem okD.tuple {k : Nat} {ds : List PyData} (h : ∀ d ∈ ds, okD k d) : okD (k + 1) (.tuple ds) :=
  have q := okD_all h
  ⟨q.1, Nat.succ_le_succ q.2⟩
theorem okD.list {k : Nat} {ds : List PyData} (h : ∀ d ∈ ds, okD k d) : okD (k + 1) (.list ds) :=
  have q := okD_all h
  ⟨q.1, Nat.succ_le_succ q.2⟩
theorem okD.shaped {k : Nat} {d : PyData} (h : okD k d) (hk : k ≤ 64) : SeqAt.shaped d = true := by
  unfold SeqAt.shaped
  rw [h.lay, decide_eq_true (Nat.le_trans h.dep hk)]; rfl
theorem eqv_self {k : Nat} {d : PyData} (h : okD k d) : PyData.eqv d d = true := SeqAt.eqv_refl d h.lay
theorem rne_dt {K : PySem.W.Frag} {H : Hp} {x y : V} {k : Nat} {d : PyData} {Q : VK} (hx : Dt K H x d) (hy : Dt K H y d) (o : okD k d) (hk : k ≤ 64) (q : Q (.bl false) H) : rNeD K x y H Q :=
  ⟨d, d, hx.dp, hy.dp, o.shaped hk, o.shaped hk, by rw [eqv_self o]; exact q⟩
theorem req_dt {K : PySem.W.Frag} {H : Hp} {x y : V} {k : Nat} {d : PyData} {Q : VK} (hx : Dt K H x d) (hy : Dt K H y d) (o : okD k d) (hk : k ≤ 64) (q : Q (.bl true) H) : rEqD K x y H Q :=
  ⟨d, d, hx.dp, hy.dp, o.shaped hk, o.shaped hk, by rw [eqv_self o]; exact q⟩

theorem atD0 {ds : List PyData} {d : PyData} (e : ds[0]? = some d) : atD ds 0 = some d := atD_nat (j := 0) e
theorem atD1 {ds : List PyData} {d : PyData} (e : ds[1]? = some d) : atD ds 1 = some d := atD_nat (j := 1) e
theorem atD2 {ds : List PyData} {d : PyData} (e : ds[2]? = some d) : atD ds 2 = some d := atD_nat (j := 2) e
theorem atD3 {ds : List PyData} {d : PyData} (e : ds[3]? = some d) : atD ds 3 = some d := atD_nat (j := 3) e
theorem atDi {ds : List PyData} {d : PyData} {i : Int} {j : Nat} (h : i = (j : Int)) (e : ds[j]? = some d) : atD ds i = some d := by
  subst h
  exact atD_nat e

theorem floor_step {a b n : Int} (h : 0 < n) : b / n ≤ (a + b) / n - a / n ∧ (a + b) / n - a / n ≤ b / n + 1 := by
  have ha := Int.emod_add_mul_ediv a n
  have hb := Int.emod_add_mul_ediv b n
  have a0 := Int.emod_nonneg a (show n ≠ 0 by omega)
  have a1 := Int.emod_lt_of_pos a h
  have b0 := Int.emod_nonneg b (show n ≠ 0 by omega)
  have b1 := Int.emod_lt_of_pos b h
  have e : (a + b) / n = a / n + b / n + (a % n + b % n) / n := by
    have : a + b = (a % n + b % n) + n * (a / n + b / n) := by rw [Int.mul_add]; omega
    rw [this, Int.add_mul_ediv_left _ _ (by omega), Int.add_comm]
  have q0 : 0 ≤ (a % n + b % n) / n := Int.ediv_nonneg (by omega) (by omega)
  have q1 : (a % n + b % n) / n < 2 := by
    apply Int.ediv_lt_of_lt_mul h
    omega
  omega

theorem take_snoc {α : Type} {l : List α} {i : Nat} {x : α} (h : l[i]? = some x) : l.take (i + 1) = l.take i ++ [x] := by
  rw [List.take_add_one, h]; rfl
theorem map_int_get {acc : List Int} {i : Nat} {x : V} (h : (acc.map V.int)[i]? = some x) : ∃ z, acc[i]? = some z ∧ x = .int z := by
  rw [List.getElem?_map] at h
  cases e : acc[i]? with
  | none => rw [e] at h; cases h
  | some z =>
    rw [e] at h
    exact ⟨z, rfl, (Option.some.inj h).symm⟩

theorem Dt.ix {K : PySem.W.Frag} {H : Hp} {v : V} {i : Int} {ds : List PyData} {d : PyData} (h : Dt K H v (.tuple ds)) (e : atD ds i = some d) : ∃ a xs y, v = .ref a ∧ SqT K H a xs ∧ atI xs i = some y ∧ Dt K H y d := by
  cases h with
  | tup hs ha =>
    obtain ⟨y, h1, h2⟩ := ha.at e
    exact ⟨_, _, _, rfl, hs, h1, h2⟩

/-! displays of data -/
def EvD (K : PySem.W.Frag) (te : TE) (σ : L2.St) (H : Hp) (d : PyData) : Prop := ∀ Q : VK, (∀ v H', Same H H' → Dt K H' v d → Q v H') → te σ H Q
def EvDs (K : PySem.W.Frag) (ta : TA) (σ : L2.St) (H : Hp) (ds : List PyData) : Prop := ∀ Q : List V → Hp → Prop, (∀ vs H', Same H H' → DtAll K H' vs ds → Q vs H') → ta σ H Q
section
variable {K : PySem.W.Frag} {σ : L2.St} {H : Hp}
theorem evd_int {i : Int} : EvD K (tC (.int i)) σ H (.int i) := fun _ q => q _ _ (Same.refl _) (.int i)
theorem evd_str {i : Str} : EvD K (tC (.str i)) σ H (.str i) := fun _ q => q _ _ (Same.refl _) (.str i)
theorem evd_non : EvD K (tC .non) σ H .none := fun _ q => q _ _ (Same.refl _) .non
theorem evd_bl {b : Bool} : EvD K (tC (.bl b)) σ H (.bool b) := fun _ q => q _ _ (Same.refl _) (.bl b)
theorem evd_nil : EvDs K tNil σ H [] := fun _ q => q _ _ (Same.refl _) .nil
theorem evd_cons {te : TE} {ta : TA} {d : PyData} {ds : List PyData} (h : EvD K te σ H d) (hr : ∀ H', EvDs K ta σ H' ds) : EvDs K (tCons te ta) σ H (d :: ds) := fun Q q =>
  h _ fun v H1 s1 d1 => hr H1 _ fun vs H2 s2 d2 => q _ _ (s1.trans s2) (.cons (d1.mono (Fz.of_same s2)) d2)
theorem evd_tup {ta : TA} {ds : List PyData} (h : EvDs K ta σ H ds) (hl : ds.length ≤ 1000) : EvD K (tTup ta) σ H (.tuple ds) := fun Q q =>
  h _ fun vs H1 s1 d1 => ⟨szL (by rw [d1.length]; exact hl), fun p hp => q _ _ (s1.trans (same_new hp)) (.tup (SqT.of upd_same) (d1.mono (Fz.new hp)))⟩
end
theorem same_but {b : Addr} {H H1 H2 : Hp} (s : Same H H1) (k : But b H1 H2) (n : H b = none) : Same H H2 := fun a o h => k a o (ne_of_none h n) (s a o h)
end Rs
namespace PySem
open Sem (wp)
open AutoSeq1 (wpAny_loadPart')
/-- enumerate of one thing, whatever it is that begins -/
theorem rs_enum_new {v : Value} {o : Obj} {G : Heap → Prop} (B : Begins v o G) :
    Meets (Builtin.«enumerate.__new__» ⟨[.type "enumerate", v], []⟩) (fun _ R s => G s.heap ∧
      R (.ok (.ret (.ref (s.heap.push o).objs.size))) { s with heap := (s.heap.push o).push { cls := .type "enumerate", data := .fields #[.none, .bool false, .ref s.heap.objs.size, rawInt 0, .none, .none] } }) :=
  .of_wp fun prog w A R s hyp => by
    obtain ⟨hp, gs, dr, tk, os⟩ := s
    obtain ⟨g1, fin⟩ := hyp
    have sub := sub_enumerate
    have go : ∀ {A1 : Around} {E1 : Value → Shared → Prop} {Q1 : Value → Shared → Prop}, Q1 (.ref hp.objs.size) ⟨hp.push o, gs, dr, tk, os⟩ → wpAny (model prog w) A1 (pyIter v) Q1 E1 ⟨hp, gs, dr, tk, os⟩ :=
      fun z => B.iter prog w _ _ ⟨hp, gs, dr, tk, os⟩ _ g1 z
    wp_walk using go
    refine wpAny_stack_any fun st => wpAny_pure ?_
    split
    · rename_i c _ _ _ _ _
      cases (c == Value.type "enumerate") <;> (wp_walk using go; exact ⟨_, rfl, fin⟩)
    · wp_walk using go
      exact ⟨_, rfl, fin⟩
theorem rs_enum_call {prog : Program} {w : World} {A : Around} {E : Value → Shared → Prop} {s : Shared} {v : Value} {o : Obj} {G : Heap → Prop} {Q : Value → Shared → Prop} (B : Begins v o G) (g1 : G s.heap)
    (fin : ∀ h', IsEnum h' (s.heap.objs.size + 1) s.heap.objs.size 0 .none → h'.get? s.heap.objs.size = some o → (∀ b u, s.heap.get? b = some u → h'.get? b = some u) → Q (.ref (s.heap.objs.size + 1)) { s with heap := h' }) :
    wpAny (model prog w) A (call (.type "enumerate") [v]) Q E s := by
  refine callType_new F.called_enumerate (by decide) (F.typeCall_enumerate_1 _) (F.newCall_enumerate_1 _) (fun obj => F.args_object_init_2 obj _) F.entry_enumerate_new (rs_enum_new B) ⟨g1, ?_⟩
  have sz : (s.heap.push o).objs.size = s.heap.objs.size + 1 := Heap.size_push ..
  show _ ∧ _
  rw [sz]
  have en : IsEnum ((s.heap.push o).push { cls := .type "enumerate", data := .fields #[.none, .bool false, .ref s.heap.objs.size, rawInt 0, .none, .none] }) (s.heap.objs.size + 1) s.heap.objs.size 0 .none := by
    have t := Heap.get?_push_size (s.heap.push o) (o := { cls := .type "enumerate", data := .fields #[.none, .bool false, .ref s.heap.objs.size, rawInt 0, .none, .none] }) rfl
    rwa [sz] at t
  exact ⟨⟨_, en, rfl⟩, fin _ en (Heap.get?_push_of_some _ (Heap.get?_push_size _ B.free)) fun b u z => Heap.get?_push_of_some _ (Heap.get?_push_of_some _ z)⟩
end PySem
namespace Rs
open PySem PySem.Spec PyProof.Rows L2
/-- enumerate over the tuple at a: each item in a new pair -/
def IteT (K : PySem.W.Frag) (a : Addr) : It :=
  ⟨fun i H => ∃ (xs : List V) (x : V), SqT K H a xs ∧ xs[i]? = some x,
   fun i H v H' => ∃ T x, v = .ref T ∧ H T = none ∧ H' = upd H T (.tup [.int (i : Nat), x]) ∧ ∀ xs, SqT K H a xs → xs[i]? = some x,
   fun i H => ∃ xs : List V, SqT K H a xs ∧ xs.length = i⟩
theorem turn_enumT {P : Program} {w : World} {K : PySem.W.Frag} {elts : List Expr} {kk : Nat} {tpos : Pos} (a e it : Addr) (hae : a ≠ it) :
    Turn P w K (.Tuple elts kk tpos) (IteT K a) [e, it] e (fun i h => (∃ old, IsEnum h e it ((i : Nat) : Int) old) ∧ h.IsTupleIter it a i ∧ e ≠ it ∧ e ≠ a) where
  mem := by simp
  obj := fun i h st b hb => by
    obtain ⟨⟨old, he⟩, ⟨o, ho, hc, hd⟩, _⟩ := st
    rcases (show b = e ∨ b = it by simpa using hb) with rfl | rfl
    · exact ⟨_, he, fun v q => nomatch q⟩
    · exact ⟨o, ho, fun v q => by rw [hd] at q; cases q⟩
  keep := fun i h h' st k => let ⟨⟨old, he⟩, hi, ne⟩ := st; ⟨⟨old, k e (by simp) _ he⟩, hi.at fun o q => k it (by simp) o q, ne⟩
  item := by
    intro X hP hw hK hc i pins s σ H E I hf st hg
    subst hP hw hK
    obtain ⟨⟨old, he⟩, hit, hne, hea⟩ := st
    obtain ⟨xs, x, hq, hx⟩ := hg
    obtain ⟨its, rv, ht, _⟩ := I.tuple hq
    obtain ⟨u, hu, ru⟩ := rv.get hx
    have hel : e < s.heap.objs.size := Heap.lt_size he
    have hil : it < s.heap.objs.size := by obtain ⟨_, q, _⟩ := hit; exact Heap.lt_size q
    have D := Draws.tuple (prog := X.prog) (w := X.w) (A := X.A.in1) (I.ok.hd hc) it a hae its.toArray
    have hi : i < its.toArray.size := by
      have := (List.getElem?_eq_some_iff.mp hu).1
      simpa using this
    refine wpAny_pyNext_enum_itemD D he ⟨hit, ht⟩ hi hne (by simp [hne, hea]) fun x' h' tk hx' ho st' hT hsz hk => ?_
    have ex : x' = u := by
      have q : its.toArray[i]? = some u := by simpa using hu
      rw [q] at hx'
      exact (Option.some.inj hx').symm
    subst ex
    refine ⟨_, rfl, wpAny_letOwnedTupleGo_enum (s := { s with heap := h', toks := tk + 1 }) ho fun h'' he' sb => ?_⟩
    have hT2 : h''.get? s.heap.objs.size = some { cls := .type "tuple", data := .seq #[.int i tk, x'] } := (sb.2 _ (Nat.ne_of_gt hel)).trans hT
    have new : ObjOk X.prog X.w (upd H s.heap.objs.size (.tup [.int (i : Nat), x])) h'' s.heap.objs.size (.tup [.int (i : Nat), x]) :=
      ⟨by show 2 ≤ sizeLine; decide, [.int i tk, x'], .cons ⟨_, rfl⟩ (.cons ru .nil), ⟨_, hT2, rfl, _, rfl⟩⟩
    have I1 : Inv X pins σ (upd H s.heap.objs.size (.tup [.int (i : Nat), x])) { s with heap := h'', toks := tk + 1 } :=
      I.turnedNew (ch := [e, it]) (fun b ob hb q => (sb.2 b (fun z => hb (by simp [z]))).trans (hk b ob (fun z => hb (by simp [z])) (fun z => hb (by simp [z])) q)) hf (Nat.le_refl _) new
    refine ⟨.ref s.heap.objs.size, _, I1, rfl, ⟨_, x, rfl, I.hok.fresh (Nat.le_refl _), rfl, fun ys hy => by rw [I.tuple_inj hy hq]; exact hx⟩, ⟨⟨x', ?_⟩, st'.1.at fun o q => (sb.2 it (Ne.symm hne)).trans q, hne, hea⟩, fun b hb => ?_⟩
    · have e1 : ((i + 1 : Nat) : Int) = (i : Int) + 1 := by omega
      rw [e1]; exact he'
    · have lt : b < s.heap.objs.size := by
        rcases (show b = e ∨ b = it by simpa using hb) with rfl | rfl
        · exact hel
        · exact hil
      rw [upd_ne (Nat.ne_of_lt lt)]
      exact (hf b hb).1
  done := by
    intro X hP hw hK hc i pins s σ H E I hf st hg
    subst hP hw hK
    obtain ⟨⟨old, he⟩, hit, hne, hea⟩ := st
    obtain ⟨xs, hq, hx⟩ := hg
    obtain ⟨its, rv, ht, _⟩ := I.tuple hq
    obtain ⟨f0, f1, f2, f3, f4, f5⟩ := hf it (by simp)
    have hl := rv.length
    have D := Draws.tuple (prog := X.prog) (w := X.w) (A := X.A.in1) (I.ok.hd hc) it a hae its.toArray
    have en : its.toArray.size = i := by
      rw [← hx, hl]
      simp
    subst en
    exact wpAny_pyNext_enum_endD D he ⟨hit, ht⟩ fun h' eb => ⟨rfl, I.turned (t' := s.toks) (fun b o hb q => eb b o hb q) f0 f1 f3 f4 f5⟩
  self := fun A i s Q E st h => let ⟨⟨_, he⟩, _⟩ := st; wpAny_pyIter_enum he h
def iEnumT (K : PySem.W.Frag) (ta : TA) : TI := fun σ H R => ta σ H fun vs H1 => ∃ a xs, vs = [.ref a] ∧ SqT K H1 a xs ∧ R (IteT K a) H1
theorem pi_enumT {X : Cx} {e : Expr} {ta : TA} {p pos tpos : Pos} {elts : List Expr} {kk : Nat} (hg : Gl X "enumerate") (hm : X.mg "enumerate" = none) (ha : PA X [e] ta) (hs : starEach [e] X.env = [(false, eval e X.env)] := by rfl) :
    PI X (.Tuple elts kk tpos) (.Call (.Name "enumerate" p) [e] [] pos) (iEnumT X.K ta) := by
  refine ⟨fun pins s σ H R I hyp => Call_ (ld_blt I hg hm boot_enumerate (PyProof.Rows.callWith_type1 (thn (ha.run pos pins s σ H _ I hyp) fun us s1 res => ?_) hs rfl))⟩
  obtain ⟨vs, H1, I1, r1, a, xs, rfl, hq, q⟩ := res
  cases r1 with
  | cons r rr =>
    cases rr
    cases r
    obtain ⟨its, rv, ht, hz⟩ := I1.tuple hq
    refine rs_enum_call (begins_tuple a its.toArray) ht fun h' he ho hk => wpAny_pyIter_enum he ?_
    have I2 : Inv X pins σ H1 { s1 with heap := h' } := I1.kept (t' := s1.toks) hk
    have la : a < s1.heap.objs.size := ht.lt
    refine ⟨s1.heap.objs.size + 1, [s1.heap.objs.size + 1, s1.heap.objs.size], _, _, H1, rfl, I2, turn_enumT a (s1.heap.objs.size + 1) s1.heap.objs.size (Nat.ne_of_lt la), ⟨⟨.none, he⟩, ⟨_, ho, rfl, rfl⟩, Nat.succ_ne_self _, (Nat.ne_of_lt (Nat.lt_succ_of_lt la)).symm⟩, fun b hb => ?_, q⟩
    have le : s1.heap.objs.size ≤ b := by
      rcases (show b = s1.heap.objs.size + 1 ∨ b = s1.heap.objs.size by simpa using hb) with rfl | rfl
      · exact Nat.le_succ _
      · exact Nat.le_refl _
    exact I1.fpOk le (I1.hok.fresh le)
theorem walk_enumT {K : PySem.W.Frag} {a : Addr} {xs : List V} : Walk (IteT K a) xs.length (fun H => SqT K H a xs) (YPair (fun i => some (.int (i : Nat))) (fun i => xs[i]?)) :=
  ⟨fun i _ hi q => ⟨xs, xs[i], q, by simp [hi]⟩, fun _ q => ⟨xs, q, rfl⟩, fun i H v H' _ q y => by
    obtain ⟨T, x, h1, h2, h3, h4⟩ := y
    exact ⟨T, .int (i : Nat), x, h1, h2, h3, rfl, h4 xs q⟩⟩
end Rs
namespace K13
open PySem PySem.Spec PyProof.Rows L2 Rs
local macro_rules | `(tactic| walk_at "om") => `(tactic| first | omega | (dsimp only; omega))
local macro_rules | `(tactic| walk_at "side") => `(tactic| first | omega | (dsimp only; omega) | decide | (unfold CMul; omega) | (unfold CDiv; omega) | (unfold CPow; omega) | exact wide_div (b := 64) (by omega) (by omega) (by decide) (by decide))
local macro_rules | `(tactic| walk_at "hp") => `(tactic| first | assumption | exact upd_same)
local macro_rules | `(tactic| walk_at "sq") => `(tactic| first | assumption | exact SqL.of (by assumption) | exact SqL.of upd_same)
local macro_rules | `(tactic| walk_at "st") => `(tactic| first
  | refine ⟨_, rfl, ?_⟩
  | (refine ⟨_, _, rfl, rfl, And.intro ?side ?_⟩; (case side => walk_at "side"))
  | refine ⟨_, _, rfl, rfl, ?_⟩
  | (refine' ⟨_, _, _, _, rfl, rfl, SqL.of ?hp, ?atx, ?_⟩; (case hp => walk_at "hp"); (case atx => exact rfl))
  | (refine' ⟨_, _, _, _, rfl, rfl, ?hp, ?atx, ?_⟩; (case hp => walk_at "hp"); (case atx => exact rfl))
  | (refine' ⟨_, _, rfl, Or.inl ?sq, ?_⟩; (case sq => walk_at "sq"))
  | refine Or.inl ⟨_, rfl, ?_⟩
  | refine Or.inr ⟨_, rfl, ?_⟩)
local macro_rules | `(tactic| walk_at "evd") => `(tactic| first
  | exact evd_int
  | exact evd_str
  | exact evd_non
  | exact evd_bl
  | exact evd_nil
  | (refine evd_cons ?_ (fun _ => ?_) <;> walk_at "evd")
  | (refine evd_tup ?_ (Nat.le_of_ble_eq_true rfl); walk_at "evd"))

def topS (i : Nat) : Stmt := PySem.Challenge.pw_ringsums_k13_rows_cut_in_pieces.main.body.getD i (.Pass ⟨0, 0, 0, 0⟩)
abbrev s_cuts : Stmt := topS 1
abbrev s__law_box : Stmt := topS 3
abbrev s__law_take : Stmt := topS 4
abbrev s__law_pick : Stmt := topS 5
abbrev s__law_is_right : Stmt := topS 6
abbrev s_law : Stmt := topS 7
theorem sc_cuts : FnScope ["length", "n", "piece"] ["length", "n"] (defScope s_cuts) := ⟨rfl, rfl, rfl, by decide +kernel, rfl, by decide +kernel, by decide +kernel⟩
theorem sc__law_box : FnScope ["_law_script", "_law_k", "_law_own", "_law_cell", "_law_seed"] ["_law_script", "_law_k", "_law_own"] (defScope s__law_box) := ⟨rfl, rfl, rfl, by decide +kernel, rfl, by decide +kernel, by decide +kernel⟩
theorem sc__law_take : FnScope ["_law_box_here", "_law_many", "_law_digit", "_law_raw", "_law_wide"] ["_law_box_here", "_law_many"] (defScope s__law_take) := ⟨rfl, rfl, rfl, by decide +kernel, rfl, by decide +kernel, by decide +kernel⟩
theorem sc__law_pick : FnScope ["_law_box_here", "_law_items"] ["_law_box_here", "_law_items"] (defScope s__law_pick) := ⟨rfl, rfl, rfl, by decide +kernel, rfl, by decide +kernel, by decide +kernel⟩
theorem sc__law_is_right : FnScope ["_law_size", "_law_n", "_law_found", "_law_piece", "_law_pair", "_law_sizes", "_law_begin", "_law_end", "_law_one"] ["_law_size", "_law_n"] (defScope s__law_is_right) := ⟨rfl, rfl, rfl, by decide +kernel, rfl, by decide +kernel, by decide +kernel⟩
theorem sc_law : FnScope ["_law_script", "_law_k", "_law_box_here", "_law_turn", "_law_size", "_law_n"] ["_law_script"] (defScope s_law) := ⟨rfl, rfl, rfl, by decide +kernel, rfl, by decide +kernel, by decide +kernel⟩
/-- what the top has written -/
structure Txt (K : PySem.W.Frag) (mg : Str → Option Value) where
  a_cuts : Addr
  d_cuts : FuncData
  F_cuts : Fun K "cuts" "cuts" s_cuts a_cuts d_cuts
  b_cuts : Binds K d_cuts ["length", "n"] []
  m_cuts : mg "cuts" = some (.ref a_cuts)
  k_cuts : PySem.W.keepIn K (.ref a_cuts) = true
  a__law_box : Addr
  d__law_box : FuncData
  F__law_box : Fun K "_law_box" "_law_box" s__law_box a__law_box d__law_box
  b__law_box : Binds K d__law_box ["_law_script", "_law_k", "_law_own"] []
  m__law_box : mg "_law_box" = some (.ref a__law_box)
  k__law_box : PySem.W.keepIn K (.ref a__law_box) = true
  a__law_take : Addr
  d__law_take : FuncData
  F__law_take : Fun K "_law_take" "_law_take" s__law_take a__law_take d__law_take
  b__law_take : Binds K d__law_take ["_law_box_here", "_law_many"] []
  m__law_take : mg "_law_take" = some (.ref a__law_take)
  k__law_take : PySem.W.keepIn K (.ref a__law_take) = true
  a__law_pick : Addr
  d__law_pick : FuncData
  F__law_pick : Fun K "_law_pick" "_law_pick" s__law_pick a__law_pick d__law_pick
  b__law_pick : Binds K d__law_pick ["_law_box_here", "_law_items"] []
  m__law_pick : mg "_law_pick" = some (.ref a__law_pick)
  k__law_pick : PySem.W.keepIn K (.ref a__law_pick) = true
  a__law_is_right : Addr
  d__law_is_right : FuncData
  F__law_is_right : Fun K "_law_is_right" "_law_is_right" s__law_is_right a__law_is_right d__law_is_right
  b__law_is_right : Binds K d__law_is_right ["_law_size", "_law_n"] []
  m__law_is_right : mg "_law_is_right" = some (.ref a__law_is_right)
  k__law_is_right : PySem.W.keepIn K (.ref a__law_is_right) = true
  a_law : Addr
  d_law : FuncData
  F_law : Fun K "law" "law" s_law a_law d_law
  b_law : Binds K d_law ["_law_script"] []
  m_law : mg "law" = some (.ref a_law)
  k_law : PySem.W.keepIn K (.ref a_law) = true
  z_abs : mg "abs" = none
  z_enumerate : mg "enumerate" = none
  z_int : mg "int" = none
  z_isinstance : mg "isinstance" = none
  z_len : mg "len" = none
  z_max : mg "max" = none
  z_min : mg "min" = none
  z_range : mg "range" = none
  z_tuple : mg "tuple" = none
section
variable {P : Program} {w : World} {K : PySem.W.Frag} {mg : Str → Option Value} {base : Heap}
def spTake : Sp := fun vs H Q _ => ∃ (b : Addr) (m : Int), vs = [.ref b, .int m] ∧ Box H b ∧ 0 < m ∧ m < 2 ^ 40 ∧
  ∀ (r : Int) (H' : Hp), 0 ≤ r → r < m → Box H' b → But b H H' → Q (.int r) H'
theorem ok_take (T : Txt K mg) : FnOk P w K mg base CX0 1 T.a__law_take T.d__law_take ["_law_box_here", "_law_many"] spTake := by
  refine T.F__law_take.ok sc__law_take (fun vs H Q E h => ?_) (fun cdv A outer s H vs Q E hr h => ?_)
  · obtain ⟨b, m, rfl, _⟩ := h
    rfl
  · obtain ⟨b, m, rfl, ⟨x, y, z, hb, ⟨x0, y1, y2⟩⟩, m0, m1, k⟩ := h
    have nd := sc__law_take.nd
    refine ⟨_, (pss_cons (ps_if (pt_cmpR op_gt (pe_ix ix_list (pv 0) pe_int (fun _ _ => rfl)) pe_int (nomark _)) (pss_cons (ps_set (i := 2) nd rfl (Or.inl rfl) (pe_op op_mod (pe_callTy call_int1 (by rfl) T.z_int (by decide +kernel) (pa_cons (pe_ix ix_list (pv 0) pe_int (fun _ _ => rfl)) pa_nil)) (pv 1)))
    (pss_cons (ps_asg (pe_op op_fdivW (pe_ix ix_list (pv 0) pe_int (fun _ _ => rfl)) (pv 1)) (pg_sub (pv 0) pe_int set_list))
    (pss_one (ps_ret (pv 2))))) pss_nil)
    (pss_cons (ps_asg (pe_op op_add (pe_ix ix_list (pv 0) pe_int (fun _ _ => rfl)) pe_int) (pg_sub (pv 0) pe_int set_list))
    (pss_cons (ps_set (i := 3) nd rfl (Or.inl rfl) (pe_op op_mod (pe_callTy call_int1 (by rfl) T.z_int (by decide +kernel) (pa_cons (pe_op op_mul (pe_op op_add (pe_ix ix_list (pv 0) pe_int (fun _ _ => rfl)) (pe_op op_mul pe_int (pe_ix ix_list (pv 0) pe_int (fun _ _ => rfl)))) pe_int) pa_nil)) pe_int))
    (pss_cons (ps_asg (pe_op op_add (pe_op op_mod (pe_callTy call_int1 (by rfl) T.z_int (by decide +kernel) (pa_cons (pe_op op_add (pe_op op_mul (pv 3) pe_int) pe_int) pa_nil)) pe_int) pe_int) (pg_sub (pv 0) pe_int set_list))
    (pss_cons (ps_if (pt_cmpR op_lt (pv 1) (pe_op op_pow pe_int pe_int) (nomark _)) (pss_one (ps_ret (pe_op op_mod (pe_callTy call_int1 (by rfl) T.z_int (by decide +kernel) (pa_cons (pe_op op_fdiv (pe_op op_add (pe_op op_mul (pv 3) pe_int) (pe_ix ix_list (pv 0) pe_int (fun _ _ => rfl))) pe_int) pa_nil)) (pv 1)))) pss_nil)
    (pss_cons (ps_set (i := 4) nd rfl (Or.inl rfl) (pe_op op_mul (pe_op op_add (pe_op op_mul (pv 3) pe_int) (pe_ix ix_list (pv 0) pe_int (fun _ _ => rfl))) (pe_op op_pow pe_int pe_int)))
    (pss_one (ps_ret (pe_op op_mod (pe_callTy call_int1 (by rfl) T.z_int (by decide +kernel) (pa_cons (pe_op op_add (pe_op op_add (pv 4) (pe_op op_mul (pe_op op_pow (pe_ix ix_list (pv 0) pe_int (fun _ _ => rfl)) pe_int) pe_int)) (pv 3)) pa_nil)) (pv 1)))))))))), ?_⟩
    repeat walk_at "st"
    refine ifB (fun e => ?_) (fun e => ?_)
    · repeat walk_at "st"
      exact k _ _ (Int.emod_nonneg _ (by omega)) (Int.emod_lt_of_pos _ m0) ⟨x / m, y, z, upd_same, Int.ediv_nonneg x0 (by omega), y1, y2⟩ (But.refl _ _).upd
    · repeat walk_at "st"
      refine ifT (decide_eq_true (show m < 2 ^ 40 from m1)) ?_
      repeat walk_at "st"
      exact k _ _ (Int.emod_nonneg _ (by omega)) (Int.emod_lt_of_pos _ m0) ⟨_, _, _, upd_same, x0, by omega, by omega⟩ (((But.refl _ _).upd).upd)
local macro_rules | `(tactic| walk_at "boxtail") => `(tactic| (
  repeat walk_at "st"
  refine ⟨szL (Nat.le_of_ble_eq_true rfl), fun p hp => ?_⟩
  repeat walk_at "st"
  refine' ⟨_, _, _, _, rfl, rfl, SqL.of upd_same, pick2 _ _ _, ?_⟩
  repeat walk_at "st"
  refine ⟨szL (Nat.le_of_ble_eq_true rfl), fun q hq => ?_⟩))
/-- the box of a cell -/
def spBox (K : PySem.W.Frag) : Sp := fun vs H Q _ => ∃ (a : Addr) (ns : List Int) (i own : Int), vs = [.ref a, .int i, .int own] ∧ SqL K H a (ns.map V.int) ∧ 0 ≤ i ∧ i < 1000 ∧ 0 ≤ own ∧ own < 1000 ∧
  ∀ (H' : Hp) (p : Addr), Same H H' → H p = none → Box H' p → Q (.ref p) H'
theorem ok_box (T : Txt K mg) : FnOk P w K mg base CX0 1 T.a__law_box T.d__law_box ["_law_script", "_law_k", "_law_own"] (spBox K) := by
  refine T.F__law_box.ok sc__law_box (fun vs H Q E h => ?_) (fun cdv A outer s H vs Q E hr h => ?_)
  · obtain ⟨a, ns, i, own, rfl, _⟩ := h
    rfl
  · obtain ⟨a, ns, i, own, rfl, hS, i0, i1, o0, o1, k⟩ := h
    have nd := sc__law_box.nd
    refine ⟨_, (pss_cons (ps_set (i := 3) nd rfl (Or.inl rfl) (pe_op op_add (pe_op op_add (pe_op op_mul pe_int (pv 1)) (pe_op op_mul pe_int (pv 2))) pe_int))
    (pss_cons (ps_if (pt_cmpR op_lt (pv 1) (pe_callB call_len_seq (by rfl) T.z_len (by decide +kernel) (pa_cons (pv 0) pa_nil)) (nomark _)) (pss_one (ps_set (i := 3) nd rfl (Or.inl rfl) (pe_callB call_abs (by rfl) T.z_abs (by decide +kernel) (pa_cons (pe_ix ix_list (pv 0) (pv 1) (fun _ _ => rfl)) pa_nil)))) (pss_one (ps_if (pt_cmpR op_gt (pe_callB call_len_seq (by rfl) T.z_len (by decide +kernel) (pa_cons (pv 0) pa_nil)) pe_int (nomark _)) (pss_one (ps_set (i := 3) nd rfl (Or.inl rfl) (pe_op op_add (pv 3) (pe_op op_mul (pe_op op_mod (pe_callTy call_int1 (by rfl) T.z_int (by decide +kernel) (pa_cons (pe_callB call_abs (by rfl) T.z_abs (by decide +kernel) (pa_cons (pe_ix ix_list (pv 0) (pe_op op_mod (pe_callTy call_int1 (by rfl) T.z_int (by decide +kernel) (pa_cons (pv 1) pa_nil)) (pe_callB call_len_seq (by rfl) T.z_len (by decide +kernel) (pa_cons (pv 0) pa_nil))) (fun _ _ => rfl)) pa_nil)) pa_nil)) pe_int) pe_int)))) pss_nil)))
    (pss_cons (ps_set (i := 4) nd rfl (Or.inl rfl) (pe_op op_add (pe_op op_mod (pe_callTy call_int1 (by rfl) T.z_int (by decide +kernel) (pa_cons (pe_op op_add (pe_op op_mul (pe_op op_mod (pe_callTy call_int1 (by rfl) T.z_int (by decide +kernel) (pa_cons (pv 3) pa_nil)) pe_int) pe_int) (pe_op op_mul pe_int (pe_op op_add (pv 1) (pe_op op_mul pe_int (pv 2))))) pa_nil)) pe_int) pe_int))
    (pss_one (ps_ret (pe_lst (pa_cons (pe_ix ix_list (pe_lst (pa_cons pe_int (pa_cons (pv 3) pa_nil))) (pe_callTy call_int1 (by rfl) T.z_int (by decide +kernel) (pa_cons (pe_cmpR op_ge (pv 3) (pe_op op_pow pe_int pe_int) (nomark _)) pa_nil)) (fun _ _ => rfl)) (pa_cons (pv 4) (pa_cons pe_int pa_nil))))))))), ?_⟩
    repeat walk_at "st"
    refine ifB (fun e => ?_) (fun e => ?_)
    · have e := of_decide_eq_true e
      rw [List.length_map] at e
      obtain ⟨z, hz⟩ := ints_at i0 e
      refine ⟨_, rfl, _, rfl, _, _, _, _, rfl, rfl, hS, hz, ?_⟩
      have c0 := natAbs_abs (i := z)
      walk_at "boxtail"
      exact k _ _ ((same_new (by assumption)).trans (same_new (by assumption))) ((same_new (by assumption)).free (by assumption)) ⟨_, _, _, upd_same, ite_ge0 (by decide) c0, by walk_at "om", by walk_at "om"⟩
    · repeat walk_at "st"
      refine ifB (fun e1 => ?_) (fun e1 => ?_)
      · have e1 := of_decide_eq_true e1
        repeat walk_at "st"
        rw [List.length_map] at e1
        obtain ⟨z, hz⟩ := ints_at (ns := ns) (k := i % ((ns.map V.int).length : Nat)) (Int.emod_nonneg _ (by rw [List.length_map]; omega)) (by rw [List.length_map]; exact Int.emod_lt_of_pos _ (by omega))
        refine ⟨_, _, _, _, rfl, rfl, hS, hz, ?_⟩
        have c0 := natAbs_abs (i := z)
        walk_at "boxtail"
        exact k _ _ ((same_new (by assumption)).trans (same_new (by assumption))) ((same_new (by assumption)).free (by assumption)) ⟨_, _, _, upd_same, ite_ge0 (by decide) (by walk_at "om"), by walk_at "om", by walk_at "om"⟩
      · repeat walk_at "st"
        walk_at "boxtail"
        exact k _ _ ((same_new (by assumption)).trans (same_new (by assumption))) ((same_new (by assumption)).free (by assumption)) ⟨_, _, _, upd_same, ite_ge0 (by decide) (by walk_at "om"), by walk_at "om", by walk_at "om"⟩

/-- one of the items of a list -/
def spPick : Sp := fun vs H Q _ => ∃ (b L : Addr) (xs : List V), vs = [.ref b, .ref L] ∧ Box H b ∧ L ≠ b ∧ H L = some (.lst xs) ∧ 0 < xs.length ∧ xs.length < 1000 ∧
  ∀ (v : V) (H' : Hp), v ∈ xs → Box H' b → But b H H' → Q v H'
theorem ok_pick (T : Txt K mg) : FnOk P w K mg base CX0 2 T.a__law_pick T.d__law_pick ["_law_box_here", "_law_items"] spPick := by
  have G__law_take : FnOk P w K mg base CX0 1 T.a__law_take T.d__law_take ["_law_box_here", "_law_many"] spTake := ok_take T
  refine T.F__law_pick.ok sc__law_pick (fun vs H Q E h => ?_) (fun cdv A outer s H vs Q E hr h => ?_)
  · obtain ⟨b, L, xs, rfl, _⟩ := h
    rfl
  · obtain ⟨b, L, xs, rfl, hB, hne, hL, l0, l1, k⟩ := h
    have nd := sc__law_pick.nd
    refine ⟨_, (pss_one (ps_ret (pe_ix ix_list (pv 1) (pe_call G__law_take (hr.mono (by decide)) (by rfl) T.m__law_take T.k__law_take T.b__law_take .nil pass0 (pa_cons (pv 0) (pa_cons (pe_callB call_len_seq (by rfl) T.z_len (by decide +kernel) (pa_cons (pv 1) pa_nil)) pa_nil))) (fun _ _ => rfl)))), ?_⟩
    repeat walk_at "st"
    refine ⟨b, _, rfl, hB, by omega, by omega, fun r H' r0 r1 B' k' => ?_⟩
    obtain ⟨v, hv, hz⟩ := mem_at r0 r1
    exact ⟨_, _, _, _, rfl, rfl, SqL.of (k' _ _ hne hL), hz, k v H' hv B' k'⟩

/-! cuts -/
def pairD (len n : Int) (i : Nat) : PyData := .tuple [.int (((i : Nat) : Int) * len / n), .int ((((i : Nat) : Int) + 1) * len / n)]
def cutsD (len n : Int) : List PyData := (List.range n.toNat).map (pairD len n)
def spCuts (K : PySem.W.Frag) : Sp := fun vs H Q _ => ∃ (len n : Int), vs = [.int len, .int n] ∧ 0 < n ∧ n ≤ 1000 ∧
  ∀ (H' : Hp) (p : Addr), Same H H' → H p = none → Dt K H' (.ref p) (.tuple (cutsD len n)) → Q (.ref p) H'
theorem ok_cuts (T : Txt K mg) : FnOk P w K mg base CX0 1 T.a_cuts T.d_cuts ["length", "n"] (spCuts K) := by
  refine T.F_cuts.ok sc_cuts (fun vs H Q E h => ?_) (fun cdv A outer s H vs Q E hr h => ?_)
  · obtain ⟨a, n, rfl, _⟩ := h
    rfl
  · obtain ⟨len, n, rfl, n0, n1, k⟩ := h
    have nd := sc_cuts.nd
    refine ⟨_, (pss_one (ps_ret (pe_callTy call_tuple_of (by rfl) T.z_tuple (by decide +kernel) (pa_cons (pe_lc (own := [("piece", 2)]) (g := (gName 2)) (by rfl) nd (pi_range1 (by rfl) T.z_range (pa_cons (pv 1) pa_nil)) (blkOk_by (N := ["length", "n", "piece"]) (sc := defScope s_cuts) (own := [("piece", 2)]) (by decide +kernel)) (fun _ _ _ _ _ => by exact (pg_name (i := 2) nd rfl (Or.inl rfl))) (fun _ _ _ _ _ => by exact pts_nil) (fun _ _ _ _ _ => by exact (pe_tup (pa_cons (pe_op op_fdiv (pe_op op_mul (pv 2) (pv 0)) (pv 1)) (pa_cons (pe_op op_fdiv (pe_op op_mul (pe_op op_add (pv 2) pe_int) (pv 0)) (pv 1)) pa_nil))))) pa_nil)))), ?_⟩
    refine ⟨_, rfl, n, rfl, by omega, by omega, fun D hD => lc_range (fun i H1 => ∃ acc, H1 D = some (.lst acc) ∧ DtAll K H1 acc ((List.range i).map (pairD len n)) ∧ Same H H1)
      ⟨[], upd_same, .nil, same_new hD⟩ (fun i H1 hi hP => ?_) (fun H1 hP => ?_)⟩
    · obtain ⟨acc, hA, dA, sA⟩ := hP
      refine ⟨rfl, ?_⟩
      repeat walk_at "st"
      refine ⟨szL (Nat.le_of_ble_eq_true rfl), fun p hp => ?_⟩
      have hl : acc.length = i := by rw [dA.length, List.length_map, List.length_range]
      have hn : p ≠ D := (ne_of_none hA hp).symm
      have hA' : (upd H1 p (.tup [.int ((0 + (i : Int)) * len / n), .int ((0 + (i : Int) + 1) * len / n)])) D = some (.lst acc) := by rw [upd_ne hn.symm]; exact hA
      refine ⟨acc, hA', szl (by omega), _, upd_same, ?_, same_lst (sA.trans (same_new hp)) hD⟩
      rw [range_succ_map, show pairD len n i = .tuple [.int ((0 + (i : Int)) * len / n), .int ((0 + (i : Int) + 1) * len / n)] by unfold pairD; rw [Int.zero_add]]
      exact ((dA.mono (Fz.new hp)).mono (Fz.lst hA')).snoc (.tup (SqT.of (by rw [upd_ne hn]; exact upd_same)) (.cons (.int _) (.cons (.int _) .nil)))
    · obtain ⟨acc, hA, dA, sA⟩ := hP
      refine ⟨D, acc, rfl, .inl ⟨SqL.of hA, fun p hp => ?_⟩⟩
      exact k _ p (sA.trans (same_new hp)) (sA.free hp) (.tup (SqT.of upd_same) (dA.mono (Fz.new hp)))

theorem pair_ok (len n : Int) (i : Nat) : okD 1 (pairD len n i) := ⟨rfl, Nat.le_refl _⟩
theorem cuts_ok (len n : Int) : okD 2 (.tuple (cutsD len n)) := .tuple fun d hd => by
  obtain ⟨i, _, rfl⟩ := List.mem_map.mp hd
  exact pair_ok len n i
theorem cuts_get {len n : Int} {i : Nat} (h : i < n.toNat) : (cutsD len n)[i]? = some (pairD len n i) := by
  unfold cutsD
  rw [List.getElem?_map, List.getElem?_range h]; rfl
theorem cuts_len (len n : Int) : (cutsD len n).length = n.toNat := by
  unfold cutsD
  rw [List.length_map, List.length_range]
def spRight (K : PySem.W.Frag) : Sp := fun vs H Q _ => ∃ (len n : Int), vs = [.int len, .int n] ∧ 0 < n ∧ n ≤ 1000 ∧ ∀ (H' : Hp), Same H H' → Q (.bl true) H'
theorem ok_right (T : Txt K mg) : FnOk P w K mg base CX0 2 T.a__law_is_right T.d__law_is_right ["_law_size", "_law_n"] (spRight K) := by
  have G_cuts : FnOk P w K mg base CX0 1 T.a_cuts T.d_cuts ["length", "n"] (spCuts K) := ok_cuts T
  refine T.F__law_is_right.ok sc__law_is_right (fun vs H Q E h => ?_) (fun cdv A outer s H vs Q E hr h => ?_)
  · obtain ⟨len, n, rfl, _⟩ := h
    rfl
  · obtain ⟨len, n, rfl, n0, n1, k⟩ := h
    have nd := sc__law_is_right.nd
    refine ⟨_, (pss_cons (ps_set (i := 2) nd rfl (Or.inl rfl) (pe_call G_cuts (hr.mono (by decide)) (by rfl) T.m_cuts T.k_cuts T.b_cuts .nil pass0 (pa_cons (pv 0) (pa_cons (pv 1) pa_nil))))
    (pss_cons (ps_if (PW.pt (pw_or (pt_not (pt_val (pe_callB call_isi (by rfl) T.z_isinstance (by decide +kernel) (pa_cons (pv 2) (pa_cons (pe_bltn (v := .ty "tuple") (u := .type "tuple") (by rfl) T.z_tuple (by decide +kernel) (by exact rfl)) pa_nil))))) (pw_or (pt_cmpR op_ne (pe_callB call_len_seq (by rfl) T.z_len (by decide +kernel) (pa_cons (pv 2) pa_nil)) (pv 1) (nomark _)) (pw_or (pt_cmpR op_ne (pe_ix ix_tup (pe_ix ix_tup (pv 2) pe_int (fun _ _ => rfl)) pe_int (fun _ _ => rfl)) pe_int (nomark _)) (pw_or1 (pt_cmpR op_ne (pe_ix ix_tup (pe_ix ix_tup (pv 2) (pe_un un_neg pe_int) (fun _ _ => rfl)) pe_int (fun _ _ => rfl)) (pv 0) (nomark _))))))) (pss_one (ps_ret pe_bl)) pss_nil)
    (pss_cons (ps_for PassesOwn.never rfl (pi_enumT (by rfl) T.z_enumerate (pa_cons (pv 2) pa_nil)) (pg_tup rfl (pgs_cons (pg_name (i := 3) nd rfl (Or.inl rfl)) (pgs_cons (pg_name (i := 4) nd rfl (Or.inl rfl)) pgs_nil)))
    (pss_cons (ps_if (PW.pt (pw_or (pt_not (pt_val (pe_callB call_isi (by rfl) T.z_isinstance (by decide +kernel) (pa_cons (pv 4) (pa_cons (pe_bltn (v := .ty "tuple") (u := .type "tuple") (by rfl) T.z_tuple (by decide +kernel) (by exact rfl)) pa_nil))))) (pw_or1 (pt_cmpR (op_neD hr.units) (pv 4) (pe_tup (pa_cons (pe_op op_fdiv (pe_op op_mul (pv 3) (pv 0)) (pv 1)) (pa_cons (pe_op op_fdiv (pe_op op_mul (pe_op op_add (pv 3) pe_int) (pv 0)) (pv 1)) pa_nil))) (nomark _))))) (pss_one (ps_ret pe_bl)) pss_nil)
    (pss_one (ps_if (PW.pt (pw_and (pt_cmpR op_gt (pv 3) pe_int (nomark _)) (pw_and1 (pt_cmpR op_ne (pe_ix ix_tup (pv 4) pe_int (fun _ _ => rfl)) (pe_ix ix_tup (pe_ix ix_tup (pv 2) (pe_op op_sub (pv 3) pe_int) (fun _ _ => rfl)) pe_int (fun _ _ => rfl)) (nomark _))))) (pss_one (ps_ret pe_bl)) pss_nil))))
    (pss_cons (ps_setLc (i := 5) (own := [("_law_begin", 6), ("_law_end", 7)]) (g := (gTup K 2 (gCons (gName 6) (gCons (gName 7) gNil)))) (by rfl) nd rfl rfl (sw_true rfl rfl rfl (by decide +kernel)) (pi_tup (pv 2)) (blkOk_by (N := ["_law_size", "_law_n", "_law_found", "_law_piece", "_law_pair", "_law_sizes", "_law_begin", "_law_end", "_law_one"]) (sc := defScope s__law_is_right) (own := [("_law_begin", 6), ("_law_end", 7)]) (by decide +kernel)) (fun _ _ _ _ _ => by exact (pg_tup rfl (pgs_cons (pg_name (i := 6) nd rfl (Or.inl rfl)) (pgs_cons (pg_name (i := 7) nd rfl (Or.inl rfl)) pgs_nil)))) (fun _ _ _ _ _ => by exact pts_nil) (fun _ _ _ _ _ => by exact (pe_op op_sub (pv 7) (pv 6))))
    (pss_one (ps_ret (pe_cmpR op_le (pe_op op_sub (pe_callB (cr_max rfl) (by rfl) T.z_max (by decide +kernel) (pa_cons (pe_lc (own := [("_law_one", 8)]) (g := (gName 8)) (by rfl) nd (pi_list (pv 5)) (blkOk_by (N := ["_law_size", "_law_n", "_law_found", "_law_piece", "_law_pair", "_law_sizes", "_law_begin", "_law_end", "_law_one"]) (sc := defScope s__law_is_right) (own := [("_law_one", 8)]) (by decide +kernel)) (fun _ _ _ _ _ => by exact (pg_name (i := 8) nd rfl (Or.inl rfl))) (fun _ _ _ _ _ => by exact pts_nil) (fun _ _ _ _ _ => by exact (pe_callTy call_int1 (by rfl) T.z_int (by decide +kernel) (pa_cons (pv 8) pa_nil)))) pa_nil)) (pe_callB (cr_min rfl) (by rfl) T.z_min (by decide +kernel) (pa_cons (pe_lc (own := [("_law_one", 8)]) (g := (gName 8)) (by rfl) nd (pi_list (pv 5)) (blkOk_by (N := ["_law_size", "_law_n", "_law_found", "_law_piece", "_law_pair", "_law_sizes", "_law_begin", "_law_end", "_law_one"]) (sc := defScope s__law_is_right) (own := [("_law_one", 8)]) (by decide +kernel)) (fun _ _ _ _ _ => by exact (pg_name (i := 8) nd rfl (Or.inl rfl))) (fun _ _ _ _ _ => by exact pts_nil) (fun _ _ _ _ _ => by exact (pe_callTy call_int1 (by rfl) T.z_int (by decide +kernel) (pa_cons (pv 8) pa_nil)))) pa_nil))) pe_int (nomark _)))))))), ?_⟩
    refine ⟨_, rfl, _, rfl, len, n, rfl, n0, n1, fun H1 p s1 np dT => ?_⟩
    refine ⟨_, rfl, ⟨_, _, _, _, true, rfl, .ty _, dT.ty, kit_ty (a := "tuple") (by decide +kernel), _, rfl, ifF rfl ?_⟩⟩
    obtain ⟨xs, hT, hl, hxs⟩ := dT.len
    rw [cuts_len] at hl
    refine ⟨_, rfl, _, _, rfl, .inr hT, _, rfl, rfl, _, rfl, ifF (neF (by omega)) ?_⟩
    refine ⟨_, rfl, ?_⟩
    obtain ⟨_, _, y, hv, hsq, hix, hy⟩ := (dT).ix (atD0 (cuts_get (by omega)))
    refine ⟨_, _, _, _, hv, rfl, hsq, hix, ?_⟩
    obtain ⟨_, _, y2, hv, hsq, hix, hy2⟩ := (hy).ix (atD0 rfl)
    refine ⟨_, _, _, _, hv, rfl, hsq, hix, ?_⟩
    obtain rfl := hy2.int_eq
    refine ⟨rfl, _, rfl, ifF (neF (by simp)) ?_⟩
    refine ⟨_, rfl, _, rfl, ?_⟩
    have hlast : (cutsD len n)[(cutsD len n).length - 1]? = some (pairD len n (n.toNat - 1)) := by rw [cuts_len]; exact cuts_get (by omega)
    obtain ⟨_, _, y3, hv, hsq, hix, hy3⟩ := (dT).ix (atD_last (by rw [cuts_len]; omega) hlast)
    refine ⟨_, _, _, _, hv, rfl, hsq, hix, ?_⟩
    obtain ⟨_, _, y4, hv, hsq, hix, hy4⟩ := (hy3).ix (atD1 rfl)
    refine ⟨_, _, _, _, hv, rfl, hsq, hix, ?_⟩
    obtain rfl := hy4.int_eq
    have elast : (((n.toNat - 1 : Nat) : Int) + 1) * len / n = len := by
      rw [show (((n.toNat - 1 : Nat) : Int) + 1) = n by omega]
      exact Int.mul_ediv_cancel_left _ (by omega)
    refine ⟨_, rfl, rfl, _, rfl, ifF (neF elast) ?_⟩
    refine ⟨_, rfl, p, xs, rfl, hT, for_it walk_enumT (fun i σ H2 => ∃ y3 y4, σ = [some (.int len), some (.int n), some (.ref p), y3, y4, none, none, none, none] ∧ Same H1 H2)
      ⟨none, none, rfl, Same.refl _⟩ (fun i σ H2 _ ⟨_, _, _, s2⟩ => (Fz.of_same s2).sqT hT) (fun i x σ H2 H3 hi hP hY => ?_) (fun σ H2 hP => ?_)⟩
    · obtain ⟨y3, y4, rfl, s2⟩ := hP
      obtain ⟨T', a', b', rfl, nT, rfl, h1, h2⟩ := hY
      obtain rfl := Option.some.inj h1
      obtain ⟨d, hd, dt⟩ := hxs.getV h2
      rw [hl] at hi
      rw [cuts_get hi] at hd
      obtain rfl := Option.some.inj hd
      have s3 : Same H1 (upd H2 T' (.tup [.int (i : Nat), b'])) := s2.trans (same_new nT)
      have dt' := dt.mono (Fz.of_same s3)
      refine ⟨T', _, rfl, SqT.of upd_same, rfl, _, _, rfl, _, _, rfl, rfl, ?_⟩
      refine ⟨_, rfl, ⟨_, _, _, _, true, rfl, .ty _, dt'.ty, kit_ty (a := "tuple") (by decide +kernel), _, rfl, ifF rfl ?_⟩⟩
      repeat walk_at "st"
      refine ⟨szL (Nat.le_of_ble_eq_true rfl), fun q nq => ?_⟩
      have s4 := s3.trans (same_new (o := .tup [.int ((i : Int) * len / n), .int (((i : Int) + 1) * len / n)]) nq)
      have dt4 := dt'.mono (Fz.new (o := .tup [.int ((i : Int) * len / n), .int (((i : Int) + 1) * len / n)]) nq)
      apply rne_dt dt4 (.tup (SqT.of upd_same) (.cons (.int _) (.cons (.int _) .nil))) (pair_ok len n i) (by decide)
      refine ⟨_, rfl, ifF rfl ?_⟩
      refine ⟨_, rfl, _, _, rfl, rfl, _, rfl, ifB (fun e => ?_) (fun e => ifF rfl ?_)⟩
      · have e := of_decide_eq_true e
        refine ⟨_, rfl, ?_⟩
        obtain ⟨_, _, y, hv, hsq, hix, hy⟩ := (dt4).ix (atD0 rfl)
        refine ⟨_, _, _, _, hv, rfl, hsq, hix, ?_⟩
        obtain rfl := hy.int_eq
        refine ⟨_, rfl, _, rfl, _, _, rfl, rfl, ?_⟩
        obtain ⟨_, _, y, hv, hsq, hix, hy⟩ := ((dT.mono (Fz.of_same s4))).ix (atDi (i := (i : Int) - 1) (j := i - 1) (by omega) (cuts_get (by omega)))
        refine ⟨_, _, _, _, hv, rfl, hsq, hix, ?_⟩
        obtain ⟨_, _, y, hv, hsq, hix, hy⟩ := (hy).ix (atD1 rfl)
        refine ⟨_, _, _, _, hv, rfl, hsq, hix, ?_⟩
        obtain rfl := hy.int_eq
        refine ⟨rfl, _, rfl, ifF (neF (by rw [show (((i - 1 : Nat) : Int) + 1) = (i : Int) by omega])) ?_⟩
        exact ⟨_, _, rfl, s4⟩
      · exact ⟨_, _, rfl, s4⟩
    · obtain ⟨y3, y4, rfl, s2⟩ := hP
      have hT2 := (Fz.of_same s2).sqT hT
      refine ⟨_, rfl, p, rfl, ⟨_, hT2⟩, fun D hD => lc_tup (xs := xs) (fun i H3 => ∃ acc : List Int, H3 D = some (.lst (acc.map V.int)) ∧ acc.length = i ∧ (∀ x ∈ acc, len / n ≤ x ∧ x ≤ len / n + 1) ∧ Same H2 H3)
        ⟨[], upd_same, rfl, fun x hx => absurd hx List.not_mem_nil, same_new hD⟩ (fun i H3 _ ⟨_, _, _, _, s3⟩ => (Fz.of_same s3).sqT hT2) (fun i x H3 hx hP => ?_) (fun H3 hP => ?_)⟩
      · obtain ⟨acc, hA, hl2, hb, s3⟩ := hP
        obtain ⟨d, hd, dt⟩ := hxs.getV hx
        have hi : i < n.toNat := by
          have := (List.getElem?_eq_some_iff.mp hx).1
          omega
        rw [cuts_get hi] at hd
        obtain rfl := Option.some.inj hd
        have dt' := dt.mono (Fz.of_same (s2.trans s3))
        cases dt' with
        | tup hs2 hall =>
          cases hall with
          | cons g1 g2 =>
            cases g2 with
            | cons g2 g3 =>
              cases g3
              obtain rfl := g1.int_eq
              obtain rfl := g2.int_eq
              refine ⟨_, _, rfl, hs2, rfl, _, _, rfl, _, _, rfl, rfl, rfl, ?_⟩
              refine ⟨_, rfl, _, rfl, _, _, rfl, rfl, _, hA, szl (by rw [List.length_map]; omega), acc ++ [((i : Int) + 1) * len / n - (i : Int) * len / n], ?_, by rw [List.length_append, hl2]; rfl, fun x hx => ?_, same_lst s3 hD⟩
              · rw [upd_same, List.map_append]; rfl
              · rcases List.mem_append.mp hx with h | h
                · exact hb x h
                · rw [List.mem_singleton.mp h]
                  have := floor_step (a := (i : Int) * len) (b := len) n0
                  rw [show ((i : Int) + 1) * len = (i : Int) * len + len by rw [Int.add_mul, Int.one_mul]]
                  exact this
      · obtain ⟨acc, hA, hl2, hb, s3⟩ := hP
        -- max and min of the sizes
        refine ⟨_, rfl, D, rfl, ⟨_, SqL.of hA⟩, fun D2 hD2 => lc_list (K := K) (xs := acc.map V.int) (fun i H4 => H4 D2 = some (.lst ((acc.take i).map V.int)) ∧ Same H3 H4)
          ⟨upd_same, same_new hD2⟩ (fun i H4 _ ⟨_, s4⟩ => SqL.of (s4 _ _ hA)) (fun i x H4 hx hP => ?_) (fun H4 hP => ?_)⟩
        · obtain ⟨hA2, s4⟩ := hP
          obtain ⟨z, hz, rfl⟩ := map_int_get hx
          refine ⟨rfl, _, rfl, .inl ⟨z, rfl, _, hA2, szl ?_, ?_, same_lst s4 hD2⟩⟩
          · rw [List.length_map, List.length_take]; omega
          · rw [upd_same, take_snoc hz, List.map_append]; rfl
        · obtain ⟨hA2, s4⟩ := hP
          rw [List.length_map, List.take_length] at hA2
          refine ⟨D2, acc, rfl, SqL.of hA2, by omega, fun m1 hm1 hM1 => ?_⟩
          refine ⟨_, rfl, D, rfl, ⟨_, SqL.of (s4 _ _ hA)⟩, fun D3 hD3 => lc_list (K := K) (xs := acc.map V.int) (fun i H5 => H5 D3 = some (.lst ((acc.take i).map V.int)) ∧ Same H4 H5)
            ⟨upd_same, same_new hD3⟩ (fun i H5 _ ⟨_, s5⟩ => SqL.of (s5 _ _ (s4 _ _ hA))) (fun i x H5 hx hP => ?_) (fun H5 hP => ?_)⟩
          · obtain ⟨hA3, s5⟩ := hP
            obtain ⟨z, hz, rfl⟩ := map_int_get hx
            refine ⟨rfl, _, rfl, .inl ⟨z, rfl, _, hA3, szl ?_, ?_, same_lst s5 hD3⟩⟩
            · rw [List.length_map, List.length_take]; omega
            · rw [upd_same, take_snoc hz, List.map_append]; rfl
          · obtain ⟨hA3, s5⟩ := hP
            rw [List.length_map, List.take_length] at hA3
            refine ⟨D3, acc, rfl, SqL.of hA3, by omega, fun m2 hm2 hM2 => ?_⟩
            refine ⟨_, _, rfl, rfl, _, _, rfl, rfl, ?_⟩
            have b1 := hb m1 hm1
            have b2 := hb m2 hm2
            show Q (.bl (decide (m1 - m2 ≤ 1))) H5
            rw [show decide (m1 - m2 ≤ 1) = true from decide_eq_true (by omega)]
            exact k _ (((s1.trans s2).trans s3).trans (s4.trans s5))

/-! the law -/
def spLaw (K : PySem.W.Frag) : Sp := fun vs H Q _ => ∃ (a : Addr) (ns : List Int), vs = [.ref a] ∧ SqL K H a (ns.map V.int) ∧ ns.length ≤ 63 ∧ ∀ H', Q (.bl true) H'
theorem ok_law (T : Txt K mg) : FnOk P w K mg base CX0 3 T.a_law T.d_law ["_law_script"] (spLaw K) := by
  have G_cuts : FnOk P w K mg base CX0 1 T.a_cuts T.d_cuts ["length", "n"] (spCuts K) := ok_cuts T
  have G__law_take : FnOk P w K mg base CX0 1 T.a__law_take T.d__law_take ["_law_box_here", "_law_many"] spTake := ok_take T
  have G__law_pick : FnOk P w K mg base CX0 2 T.a__law_pick T.d__law_pick ["_law_box_here", "_law_items"] spPick := ok_pick T
  have G__law_box : FnOk P w K mg base CX0 1 T.a__law_box T.d__law_box ["_law_script", "_law_k", "_law_own"] (spBox K) := ok_box T
  have G__law_is_right : FnOk P w K mg base CX0 2 T.a__law_is_right T.d__law_is_right ["_law_size", "_law_n"] (spRight K) := ok_right T
  refine T.F_law.ok sc_law (fun vs H Q E h => ?_) (fun cdv A outer s H vs Q E hr h => ?_)
  · obtain ⟨a, ns, rfl, _⟩ := h
    rfl
  · obtain ⟨a, ns, rfl, hS, hlen, k⟩ := h
    have nd := sc_law.nd
    refine ⟨_, (pss_cons (ps_for PassesOwn.never rfl (pi_range1 (by rfl) T.z_range (pa_cons (pe_callB (call_max2 rfl) (by rfl) T.z_max (by decide +kernel) (pa_cons pe_int (pa_cons (pe_callB (call_min2 rfl) (by rfl) T.z_min (by decide +kernel) (pa_cons pe_int (pa_cons (pe_callB call_len_seq (by rfl) T.z_len (by decide +kernel) (pa_cons (pv 0) pa_nil)) pa_nil))) pa_nil))) pa_nil)) (pg_name (i := 1) nd rfl (Or.inl rfl))
    (pss_cons (ps_set (i := 2) nd rfl (Or.inl rfl) (pe_call G__law_box (hr.mono (by decide)) (by rfl) T.m__law_box T.k__law_box T.b__law_box .nil pass0 (pa_cons (pv 0) (pa_cons (pv 1) (pa_cons pe_int pa_nil)))))
    (pss_one (ps_for PassesOwn.never rfl (pi_range1 (by rfl) T.z_range (pa_cons pe_int pa_nil)) (pg_name (i := 3) nd rfl (Or.inl rfl))
    (pss_cons (ps_par (i := 4) (j := 5) (by rfl) nd rfl rfl (by decide) rfl rfl (pa_cons (pe_call G__law_pick (hr.mono (by decide)) (by rfl) T.m__law_pick T.k__law_pick T.b__law_pick .nil pass0 (pa_cons (pv 2) (pa_cons (pe_lst (pa_cons (pe_call G__law_take (hr.mono (by decide)) (by rfl) T.m__law_take T.k__law_take T.b__law_take .nil pass0 (pa_cons (pv 2) (pa_cons pe_int pa_nil))) (pa_cons (pe_call G__law_take (hr.mono (by decide)) (by rfl) T.m__law_take T.k__law_take T.b__law_take .nil pass0 (pa_cons (pv 2) (pa_cons pe_int pa_nil))) pa_nil))) pa_nil))) (pa_cons (pe_op op_add pe_int (pe_call G__law_take (hr.mono (by decide)) (by rfl) T.m__law_take T.k__law_take T.b__law_take .nil pass0 (pa_cons (pv 2) (pa_cons pe_int pa_nil)))) pa_nil)) (by rfl))
    (pss_one (ps_if (PW.pt (pw_or (pt_not (pt_val (pe_call G__law_is_right (hr.mono (by decide)) (by rfl) T.m__law_is_right T.k__law_is_right T.b__law_is_right .nil pass0 (pa_cons (pv 4) (pa_cons (pv 5) pa_nil))))) (pw_or1 (pt_cmpR (op_neD hr.units) (pe_call G_cuts (hr.mono (by decide)) (by rfl) T.m_cuts T.k_cuts T.b_cuts .nil pass0 (pa_cons (pv 4) (pa_cons (pv 5) pa_nil))) (pe_call G_cuts (hr.mono (by decide)) (by rfl) T.m_cuts T.k_cuts T.b_cuts .nil pass0 (pa_cons (pv 4) (pa_cons (pv 5) pa_nil))) (nomark _))))) (pss_one (ps_ret pe_bl)) pss_nil)))))))
    (pss_cons (ps_if (PW.pt (pw_or (pt_cmpR (op_neD hr.units) (pe_call G_cuts (hr.mono (by decide)) (by rfl) T.m_cuts T.k_cuts T.b_cuts .nil pass0 (pa_cons pe_int (pa_cons pe_int pa_nil))) (pe_tup (pa_cons (pe_tup (pa_cons pe_int (pa_cons pe_int pa_nil))) (pa_cons (pe_tup (pa_cons pe_int (pa_cons pe_int pa_nil))) (pa_cons (pe_tup (pa_cons pe_int (pa_cons pe_int pa_nil))) pa_nil)))) (nomark _)) (pw_or1 (pt_cmpR (op_neD hr.units) (pe_call G_cuts (hr.mono (by decide)) (by rfl) T.m_cuts T.k_cuts T.b_cuts .nil pass0 (pa_cons pe_int (pa_cons pe_int pa_nil))) (pe_tup (pa_cons (pe_tup (pa_cons pe_int (pa_cons pe_int pa_nil))) (pa_cons (pe_tup (pa_cons pe_int (pa_cons pe_int pa_nil))) (pa_cons (pe_tup (pa_cons pe_int (pa_cons pe_int pa_nil))) (pa_cons (pe_tup (pa_cons pe_int (pa_cons pe_int pa_nil))) pa_nil))))) (nomark _))))) (pss_one (ps_ret pe_bl)) pss_nil)
    (pss_one (ps_ret (pe_and (pe_cmpR (op_eqD hr.units) (pe_call G_cuts (hr.mono (by decide)) (by rfl) T.m_cuts T.k_cuts T.b_cuts .nil pass0 (pa_cons pe_int (pa_cons pe_int pa_nil))) (pe_tup (pa_cons (pe_tup (pa_cons pe_int (pa_cons pe_int pa_nil))) pa_nil)) (nomark _)) (pe_one (pe_cmpR (op_eqD hr.units) (pe_call G_cuts (hr.mono (by decide)) (by rfl) T.m_cuts T.k_cuts T.b_cuts .nil pass0 (pa_cons pe_int (pa_cons pe_int pa_nil))) (pe_tup (pa_cons (pe_tup (pa_cons pe_int (pa_cons pe_int pa_nil))) (pa_cons (pe_tup (pa_cons pe_int (pa_cons pe_int pa_nil))) (pa_cons (pe_tup (pa_cons pe_int (pa_cons pe_int pa_nil))) pa_nil)))) (nomark _)))))))), ?_⟩
    refine ⟨_, rfl, _, _, rfl, .inl hS, _, _, rfl, _, _, rfl, _, rfl, ?_, ?_, ?_⟩
    · split <;> split <;> omega
    · split <;> split <;> omega
    refine for_range (fun i σ H2 => ∃ y1 y2 y3 y4 y5, σ = [some (.ref a), y1, y2, y3, y4, y5] ∧ Same H H2)
      ⟨none, none, none, none, none, rfl, Same.refl _⟩ (fun i σ H2 hi hP => ?_) (fun σ H2 hP => ?_)
    · obtain ⟨y1, y2, y3, y4, y5, rfl, s2⟩ := hP
      have i4 : i < 1000 := by
        revert hi
        split <;> split <;> omega
      refine ⟨_, rfl, _, rfl, a, ns, _, 13, rfl, s2.seq hS, by omega, by omega, by omega, by omega, fun H3 b s3 nb B3 => ?_⟩
      have s03 := s2.trans s3
      have nb0 : H b = none := s2.free nb
      refine ⟨8, rfl, by decide, by decide, for_range (fun j σ H4 => ∃ y3 y4 y5, σ = [some (.ref a), some (.int (0 + (i : Int))), some (.ref b), y3, y4, y5] ∧ But b H3 H4 ∧ Box H4 b)
        ⟨y3, y4, y5, rfl, But.refl _ _, B3⟩ (fun j σ H4 hj hP => ?_) (fun σ H4 hP => ?_)⟩
      · obtain ⟨y3, y4, y5, rfl, k4, B4⟩ := hP
        refine ⟨_, rfl, _, rfl, b, 61, rfl, B4, by decide, by decide, fun r1 H5 r10 r11 B5 k5 => ?_⟩
        refine ⟨_, rfl, b, 61, rfl, B5, by decide, by decide, fun r2 H6 r20 r21 B6 k6 => ?_⟩
        refine ⟨szL (Nat.le_of_ble_eq_true rfl), fun L hL => ?_⟩
        refine ⟨b, L, _, rfl, B6.same (same_new hL), B6.ne_none hL, upd_same, by simp, by simp, fun v H7 hv B7 k7 => ?_⟩
        obtain ⟨z, rfl⟩ : ∃ z, v = .int z := by
          rcases List.mem_cons.mp hv with h | h
          · exact ⟨_, h⟩
          · exact ⟨_, List.mem_singleton.mp h⟩
        refine ⟨_, rfl, b, 40, rfl, B7, by decide, by decide, fun r3 H8 r30 r31 B8 k8 => ?_⟩
        have k08 : But b H3 H8 := (((k4.trans k5).trans k6).trans (But.of_same (same_new hL))).trans (k7.trans k8)
        refine ⟨_, _, rfl, rfl, _, _, rfl, ?_⟩
        refine ⟨_, rfl, _, rfl, z, 1 + r3, rfl, by omega, by omega, fun H9 s9 => ⟨_, rfl, ifF rfl ?_⟩⟩
        refine ⟨_, rfl, _, rfl, z, 1 + r3, rfl, by omega, by omega, fun H10 p1 s10 n1 d1 => ?_⟩
        refine ⟨_, rfl, _, rfl, z, 1 + r3, rfl, by omega, by omega, fun H11 p2 s11 n2 d2 => ?_⟩
        apply rne_dt (d1.mono (Fz.of_same s11)) d2 (cuts_ok _ _) (by decide)
        refine ⟨_, rfl, ifF rfl ?_⟩
        have s811 := (s9.trans s10).trans s11
        exact ⟨_, _, _, rfl, k08.trans (But.of_same s811), B8.same s811⟩
      · obtain ⟨y3, y4, y5, rfl, k4, B4⟩ := hP
        exact ⟨_, _, _, _, _, rfl, same_but s03 k4 nb0⟩
    · obtain ⟨y1, y2, y3, y4, y5, rfl, s2⟩ := hP
      refine ⟨0, 3, rfl, by decide, by decide, fun H3 p1 s3 n1 d1 => ?_⟩
      refine (evd_tup (K := K) (ds := cutsD 0 3) ?_ (by decide)) _ fun v H4 s4 dv => ?_
      · walk_at "evd"
      apply rne_dt (d1.mono (Fz.of_same s4)) dv (cuts_ok _ _) (by decide)
      refine ⟨_, rfl, ifF rfl ?_⟩
      refine ⟨2, 4, rfl, by decide, by decide, fun H5 p2 s5 n2 d2 => ?_⟩
      refine (evd_tup (K := K) (ds := cutsD 2 4) ?_ (by decide)) _ fun v H6 s6 dv2 => ?_
      · walk_at "evd"
      apply rne_dt (d2.mono (Fz.of_same s6)) dv2 (cuts_ok _ _) (by decide)
      refine ⟨_, rfl, ifF rfl ?_⟩
      refine ⟨5, 1, rfl, by decide, by decide, fun H7 p3 s7 n3 d3 => ?_⟩
      refine (evd_tup (K := K) (ds := cutsD 5 1) ?_ (by decide)) _ fun v H8 s8 dv3 => ?_
      · walk_at "evd"
      apply req_dt (d3.mono (Fz.of_same s8)) dv3 (cuts_ok _ _) (by decide)
      refine ⟨_, rfl, iteT ?_⟩
      refine ⟨7, 3, rfl, by decide, by decide, fun H9 p4 s9 n4 d4 => ?_⟩
      refine (evd_tup (K := K) (ds := cutsD 7 3) ?_ (by decide)) _ fun v H10 s10 dv4 => ?_
      · walk_at "evd"
      apply req_dt (d4.mono (Fz.of_same s10)) dv4 (cuts_ok _ _) (by decide)
      exact k _

end
theorem all_mk {l : PySem.W.OpenLaw} {w : World} {K : PySem.W.Frag} {h : Heap} {mg : Str → Option Value} {fa : Addr} (X : K.In h) (G : h.Ns mainGlobals mg) (hfa : mg "law" = some (.ref fa))
    {f0 : Addr} {od0 an0 : Option Addr} {sl0 : Array (Option Value)} {oc0 kV0 dc0 pm0 cd0 ct0 : Value}
    (a0 : PySem.W.nsIn K mainGlobals "cuts" = some (some (.ref f0))) (l0 : K.lookup f0 = some ⟨oc0, od0, .func (PySem.W.fnOf "cuts" "cuts" (defArgs s_cuts) (defBody s_cuts) (defScope s_cuts) .none kV0 dc0 pm0 an0 cd0 ct0), sl0⟩) (c0 : PySem.W.codeIn K cd0 "cuts" = true) (k0 : PySem.W.keepIn K (.ref f0) = true)
    {f1 : Addr} {od1 an1 : Option Addr} {sl1 : Array (Option Value)} {oc1 kV1 dc1 pm1 cd1 ct1 : Value}
    (a1 : PySem.W.nsIn K mainGlobals "_law_box" = some (some (.ref f1))) (l1 : K.lookup f1 = some ⟨oc1, od1, .func (PySem.W.fnOf "_law_box" "_law_box" (defArgs s__law_box) (defBody s__law_box) (defScope s__law_box) .none kV1 dc1 pm1 an1 cd1 ct1), sl1⟩) (c1 : PySem.W.codeIn K cd1 "_law_box" = true) (k1 : PySem.W.keepIn K (.ref f1) = true)
    {f2 : Addr} {od2 an2 : Option Addr} {sl2 : Array (Option Value)} {oc2 kV2 dc2 pm2 cd2 ct2 : Value}
    (a2 : PySem.W.nsIn K mainGlobals "_law_take" = some (some (.ref f2))) (l2 : K.lookup f2 = some ⟨oc2, od2, .func (PySem.W.fnOf "_law_take" "_law_take" (defArgs s__law_take) (defBody s__law_take) (defScope s__law_take) .none kV2 dc2 pm2 an2 cd2 ct2), sl2⟩) (c2 : PySem.W.codeIn K cd2 "_law_take" = true) (k2 : PySem.W.keepIn K (.ref f2) = true)
    {f3 : Addr} {od3 an3 : Option Addr} {sl3 : Array (Option Value)} {oc3 kV3 dc3 pm3 cd3 ct3 : Value}
    (a3 : PySem.W.nsIn K mainGlobals "_law_pick" = some (some (.ref f3))) (l3 : K.lookup f3 = some ⟨oc3, od3, .func (PySem.W.fnOf "_law_pick" "_law_pick" (defArgs s__law_pick) (defBody s__law_pick) (defScope s__law_pick) .none kV3 dc3 pm3 an3 cd3 ct3), sl3⟩) (c3 : PySem.W.codeIn K cd3 "_law_pick" = true) (k3 : PySem.W.keepIn K (.ref f3) = true)
    {f4 : Addr} {od4 an4 : Option Addr} {sl4 : Array (Option Value)} {oc4 kV4 dc4 pm4 cd4 ct4 : Value}
    (a4 : PySem.W.nsIn K mainGlobals "_law_is_right" = some (some (.ref f4))) (l4 : K.lookup f4 = some ⟨oc4, od4, .func (PySem.W.fnOf "_law_is_right" "_law_is_right" (defArgs s__law_is_right) (defBody s__law_is_right) (defScope s__law_is_right) .none kV4 dc4 pm4 an4 cd4 ct4), sl4⟩) (c4 : PySem.W.codeIn K cd4 "_law_is_right" = true) (k4 : PySem.W.keepIn K (.ref f4) = true)
    {f5 : Addr} {od5 an5 : Option Addr} {sl5 : Array (Option Value)} {oc5 kV5 dc5 pm5 cd5 ct5 : Value}
    (a5 : PySem.W.nsIn K mainGlobals "law" = some (some (.ref f5))) (l5 : K.lookup f5 = some ⟨oc5, od5, .func (PySem.W.fnOf "law" "law" (defArgs s_law) (defBody s_law) (defScope s_law) .none kV5 dc5 pm5 an5 cd5 ct5), sl5⟩) (c5 : PySem.W.codeIn K cd5 "law" = true) (k5 : PySem.W.keepIn K (.ref f5) = true)
    (z_abs : PySem.W.nsIn K mainGlobals "abs" = some none)
    (z_enumerate : PySem.W.nsIn K mainGlobals "enumerate" = some none)
    (z_int : PySem.W.nsIn K mainGlobals "int" = some none)
    (z_isinstance : PySem.W.nsIn K mainGlobals "isinstance" = some none)
    (z_len : PySem.W.nsIn K mainGlobals "len" = some none)
    (z_max : PySem.W.nsIn K mainGlobals "max" = some none)
    (z_min : PySem.W.nsIn K mainGlobals "min" = some none)
    (z_range : PySem.W.nsIn K mainGlobals "range" = some none)
    (z_tuple : PySem.W.nsIn K mainGlobals "tuple" = some none)
    : ∃ fd : FuncData, (∀ (s : Shared) (v : Value), BindsTo s fd ⟨[v], []⟩ [("_law_script", v)]) ∧ ∀ base : Heap, K.In base → base.Ns mainGlobals mg → FnOk l.prog w K mg base CX0 3 fa fd ["_law_script"] (spLaw K) := by
  have e := hfa.symm.trans (PySem.W.mg_of X G a5)
  cases e
  let T : Txt K mg := {
    a_cuts := f0, d_cuts := _, F_cuts := fun_mk (st := s_cuts) l0 c0 k0, b_cuts := (fun_mk (st := s_cuts) l0 c0 k0).binds (ps := ["length", "n"]) (fun _ _ _ _ _ _ us hl => match us, hl with | [_, _], _ => rfl), m_cuts := PySem.W.mg_of X G a0, k_cuts := k0,
    a__law_box := f1, d__law_box := _, F__law_box := fun_mk (st := s__law_box) l1 c1 k1, b__law_box := (fun_mk (st := s__law_box) l1 c1 k1).binds (ps := ["_law_script", "_law_k", "_law_own"]) (fun _ _ _ _ _ _ us hl => match us, hl with | [_, _, _], _ => rfl), m__law_box := PySem.W.mg_of X G a1, k__law_box := k1,
    a__law_take := f2, d__law_take := _, F__law_take := fun_mk (st := s__law_take) l2 c2 k2, b__law_take := (fun_mk (st := s__law_take) l2 c2 k2).binds (ps := ["_law_box_here", "_law_many"]) (fun _ _ _ _ _ _ us hl => match us, hl with | [_, _], _ => rfl), m__law_take := PySem.W.mg_of X G a2, k__law_take := k2,
    a__law_pick := f3, d__law_pick := _, F__law_pick := fun_mk (st := s__law_pick) l3 c3 k3, b__law_pick := (fun_mk (st := s__law_pick) l3 c3 k3).binds (ps := ["_law_box_here", "_law_items"]) (fun _ _ _ _ _ _ us hl => match us, hl with | [_, _], _ => rfl), m__law_pick := PySem.W.mg_of X G a3, k__law_pick := k3,
    a__law_is_right := f4, d__law_is_right := _, F__law_is_right := fun_mk (st := s__law_is_right) l4 c4 k4, b__law_is_right := (fun_mk (st := s__law_is_right) l4 c4 k4).binds (ps := ["_law_size", "_law_n"]) (fun _ _ _ _ _ _ us hl => match us, hl with | [_, _], _ => rfl), m__law_is_right := PySem.W.mg_of X G a4, k__law_is_right := k4,
    a_law := fa, d_law := _, F_law := fun_mk (st := s_law) l5 c5 k5, b_law := (fun_mk (st := s_law) l5 c5 k5).binds (ps := ["_law_script"]) (fun _ _ _ _ _ _ us hl => match us, hl with | [_], _ => rfl), m_law := PySem.W.mg_of X G a5, k_law := k5,
    z_abs := PySem.W.mg_none_of X G z_abs, z_enumerate := PySem.W.mg_none_of X G z_enumerate, z_int := PySem.W.mg_none_of X G z_int, z_isinstance := PySem.W.mg_none_of X G z_isinstance, z_len := PySem.W.mg_none_of X G z_len, z_max := PySem.W.mg_none_of X G z_max, z_min := PySem.W.mg_none_of X G z_min, z_range := PySem.W.mg_none_of X G z_range, z_tuple := PySem.W.mg_none_of X G z_tuple }
  exact ⟨PySem.W.fnOf "law" "law" (defArgs s_law) (defBody s_law) (defScope s_law) .none kV5 dc5 pm5 an5 cd5 ct5, fun s v => .of_eq rfl, fun base _ _ => ok_law T⟩
end K13
open PySem PySem.W PyProof.Rows
set_option maxHeartbeats 0 in
theorem PySem.Challenge.cw_ringsums_k13_rows_cut_in_pieces_holds : PySem.Challenge.rw_ringsums_k13_rows_cut_in_pieces.Holds := by
  w_on; o_law; k_head; (case hw => w_witness2)
  k_fill
  refine L2.walk_of (l := PySem.Challenge.rw_ringsums_k13_rows_cut_in_pieces) (n := 63) (k := 3) (x := "_law_script") (CX := fun _ => L2.CX0) (sp := fun w => K13.spLaw _) rfl (by decide) rfl ⟨rfl, by decide, by decide⟩ (fun w h Y => PySem.W.kIn_of Y) ?F (fun _ _ a ns hl _ hS => ⟨a, ns, rfl, hS, hl, fun _ => rfl⟩) (fun _ _ _ _ _ h => h)
  case F =>
    intro w mg fa h KX G hmg
    refine' K13.all_mk KX G hmg ?a0 ?l0 ?c0 ?k0 ?a1 ?l1 ?c1 ?k1 ?a2 ?l2 ?c2 ?k2 ?a3 ?l3 ?c3 ?k3 ?a4 ?l4 ?c4 ?k4 ?a5 ?l5 ?c5 ?k5 ?z_abs ?z_enumerate ?z_int ?z_isinstance ?z_len ?z_max ?z_min ?z_range ?z_tuple
    (case a0 => k_is)
    (case l0 => k_is)
    (case c0 => k_is)
    (case k0 => k_is)
    (case a1 => k_is)
    (case l1 => k_is)
    (case c1 => k_is)
    (case k1 => k_is)
    (case a2 => k_is)
    (case l2 => k_is)
    (case c2 => k_is)
    (case k2 => k_is)
    (case a3 => k_is)
    (case l3 => k_is)
    (case c3 => k_is)
    (case k3 => k_is)
    (case a4 => k_is)
    (case l4 => k_is)
    (case c4 => k_is)
    (case k4 => k_is)
    (case a5 => k_is)
    (case l5 => k_is)
    (case c5 => k_is)
    (case k5 => k_is)
    (case z_abs => k_is)
    (case z_enumerate => k_is)
    (case z_int => k_is)
    (case z_isinstance => k_is)
    (case z_len => k_is)
    (case z_max => k_is)
    (case z_min => k_is)
    (case z_range => k_is)
    (case z_tuple => k_is)
