import PyProof.Rows.All
import Wide.All
import OpenK.AllK
import Wide.FinOn
import HandS.ForMost
import HandS.Wide
import HandS.Conv
import HandS.IsInst
import HandS.Walk
import HandS.TupAny
import HandS.TupMul
import HandS.TryOnly
import HandS.Style
import HandS.Flow
import HandS.Deep
import HandS.ForExc
import HandS.ExcInit
import HandS.ExcIs
import HandS.ExcField
import HandS.Defaults
import HandS.RaiseMore
import KE.KExcIs
import HandS.DictComp
import PyProof.Rows.FloatCmp
import PySem.Challenge.RW_ringsums_k30_calendars_refused
set_option Elab.async false
set_option linter.all false
set_option maxRecDepth 100000
set_option maxHeartbeats 4000000
namespace Rs
open PySem PySem.Spec PyProof.Rows L2

/-! ### what never changes: tuples, instances, their dicts -/
def frozen : HO → Prop
  | .tup _ => True
  | .ins _ _ _ => True
  | .own _ => True
  | .frz _ _ => True
  | _ => False
def Fz (H H' : Hp) : Prop := ∀ a o, frozen o → H a = some o → H' a = some o
theorem Fz.refl (H : Hp) : Fz H H := fun _ _ _ h => h
theorem Fz.trans {H H1 H2 : Hp} (a : Fz H H1) (b : Fz H1 H2) : Fz H H2 := fun x o f h => b x o f (a x o f h)
theorem Fz.of_same {H H' : Hp} (s : Same H H') : Fz H H' := fun a o _ h => s a o h
theorem same_new {H : Hp} {p : Addr} {o : HO} (h : H p = none) : Same H (upd H p o) := fun b x e => by
  rw [upd_ne (ne_of_none e h)]
  exact e
theorem Fz.new {H : Hp} {p : Addr} {o : HO} (h : H p = none) : Fz H (upd H p o) := Fz.of_same (same_new h)
theorem Fz.lst {H : Hp} {p : Addr} {xs : List V} {o : HO} (h : H p = some (.lst xs)) : Fz H (upd H p o) := fun a u f e => by
  have : a ≠ p := by
    rintro rfl
    rw [h] at e
    cases e
    exact f
  rw [upd_ne this]
  exact e

/-! ### data of tuples -/
mutual
inductive Dt (K : PySem.W.Frag) (H : Hp) : V → PyData → Prop
  | non : Dt K H .non .none
  | bl (b : Bool) : Dt K H (.bl b) (.bool b)
  | int (i : Int) : Dt K H (.int i) (.int i)
  | str (x : Str) : Dt K H (.str x) (.str x)
  | tup {a : Addr} {xs : List V} {ds : List PyData} : SqT K H a xs → DtAll K H xs ds → Dt K H (.ref a) (.tuple ds)
inductive DtAll (K : PySem.W.Frag) (H : Hp) : List V → List PyData → Prop
  | nil : DtAll K H [] []
  | cons {v : V} {vs : List V} {d : PyData} {ds : List PyData} : Dt K H v d → DtAll K H vs ds → DtAll K H (v :: vs) (d :: ds)
end
theorem Fz.sqT {K : PySem.W.Frag} {H H' : Hp} {a : Addr} {xs : List V} (e : Fz H H') (h : SqT K H a xs) : SqT K H' a xs := by
  rcases h with (h | ⟨o, h⟩) | h
  · exact .inl (.inl (e _ _ trivial h))
  · exact .inl (.inr ⟨o, e _ _ trivial h⟩)
  · exact .inr h
mutual
theorem Dt.mono {K : PySem.W.Frag} {H H' : Hp} (e : Fz H H') : ∀ {v : V} {d : PyData}, Dt K H v d → Dt K H' v d
  | _, _, .non => .non
  | _, _, .bl b => .bl b
  | _, _, .int i => .int i
  | _, _, .str x => .str x
  | _, _, .tup h hs => .tup (e.sqT h) (DtAll.mono e hs)
theorem DtAll.mono {K : PySem.W.Frag} {H H' : Hp} (e : Fz H H') : ∀ {v : List V} {d : List PyData}, DtAll K H v d → DtAll K H' v d
  | _, _, .nil => .nil
  | _, _, .cons h hs => .cons (h.mono e) (DtAll.mono e hs)
end
mutual
theorem Dt.dp {K : PySem.W.Frag} {H : Hp} : ∀ {v : V} {d : PyData}, Dt K H v d → Dp K H v d
  | _, _, .non => .non
  | _, _, .bl b => .bl b
  | _, _, .int i => .int i
  | _, _, .str x => .str x
  | _, _, .tup h hs => .tup h (DtAll.dp hs)
theorem DtAll.dp {K : PySem.W.Frag} {H : Hp} : ∀ {v : List V} {d : List PyData}, DtAll K H v d → DpAll K H v d
  | _, _, .nil => .nil
  | _, _, .cons h hs => .cons h.dp (DtAll.dp hs)
end
theorem DtAll.length {K : PySem.W.Frag} {H : Hp} : ∀ {v : List V} {d : List PyData}, DtAll K H v d → v.length = d.length
  | _, _, .nil => rfl
  | _, _, .cons _ hs => congrArg (· + 1) hs.length
theorem DtAll.append {K : PySem.W.Frag} {H : Hp} : ∀ {v w : List V} {d e : List PyData}, DtAll K H v d → DtAll K H w e → DtAll K H (v ++ w) (d ++ e)
  | _, _, _, _, .nil, k => k
  | _, _, _, _, .cons h hs, k => .cons h (hs.append k)
theorem DtAll.get {K : PySem.W.Frag} {H : Hp} : ∀ {v : List V} {d : List PyData} {i : Nat} {x : PyData}, DtAll K H v d → d[i]? = some x → ∃ y, v[i]? = some y ∧ Dt K H y x
  | _, _, i, x, .nil, e => by simp at e
  | _, _, 0, x, .cons h _, e => ⟨_, rfl, by
      have : _ = x := Option.some.inj e
      exact this ▸ h⟩
  | _, _, i + 1, x, .cons _ hs, e => by
    have e' := e
    simp only [List.getElem?_cons_succ] at e' ⊢
    exact hs.get e'
theorem DtAll.getV {K : PySem.W.Frag} {H : Hp} : ∀ {v : List V} {d : List PyData} {i : Nat} {y : V}, DtAll K H v d → v[i]? = some y → ∃ x, d[i]? = some x ∧ Dt K H y x
  | _, _, i, x, .nil, e => by simp at e
  | _, _, 0, x, .cons h _, e => ⟨_, rfl, by
      have : _ = x := Option.some.inj e
      exact this ▸ h⟩
  | _, _, i + 1, x, .cons _ hs, e => by
    have e' := e
    simp only [List.getElem?_cons_succ] at e' ⊢
    exact hs.getV e'

/-! ### the box of draws -/
structure BoxI (x y z : Int) : Prop where
  x0 : 0 ≤ x
  y1 : 1 ≤ y
  y2 : y ≤ 2147483629
def boxL (x y z : Int) : List V := [.int x, .int y, .int z]
def Box (H : Hp) (b : Addr) : Prop := ∃ x y z, H b = some (.lst (boxL x y z)) ∧ BoxI x y z
/-- all but the list at b is as it was -/
def But (b : Addr) (H H' : Hp) : Prop := ∀ a o, a ≠ b → H a = some o → H' a = some o
theorem But.refl (b : Addr) (H : Hp) : But b H H := fun _ _ _ h => h
theorem But.trans {b : Addr} {H H1 H2 : Hp} (x : But b H H1) (y : But b H1 H2) : But b H H2 := fun a o n h => y a o n (x a o n h)
theorem But.of_same {b : Addr} {H H' : Hp} (s : Same H H') : But b H H' := fun a o _ h => s a o h
theorem But.upd {b : Addr} {H H' : Hp} {o : HO} (s : But b H H') : But b H (upd H' b o) := fun a u n h => by
  rw [upd_ne n]
  exact s a u n h
theorem Box.same {b : Addr} {H H' : Hp} (x : Box H b) (s : Same H H') : Box H' b := by
  obtain ⟨x, y, z, h, i⟩ := x
  exact ⟨x, y, z, s _ _ h, i⟩
theorem Box.fz {b : Addr} {H H' : Hp} (x : Box H b) (s : But b H H') : Fz H H' := fun a o f h => by
  refine s a o ?_ h
  rintro rfl
  obtain ⟨x, y, z, h', i⟩ := x
  rw [h'] at h
  cases h
  exact f
theorem Box.ne_none {b p : Addr} {H : Hp} (x : Box H b) (h : H p = none) : p ≠ b := by
  rintro rfl
  obtain ⟨x, y, z, h', i⟩ := x
  rw [h] at h'
  cases h'
theorem ifB {b : Bool} {A B : Prop} (h1 : b = true → A) (h2 : b = false → B) : if b = true then A else B := by
  cases b with
  | true => rw [if_pos rfl]; exact h1 rfl
  | false => rw [if_neg Bool.false_ne_true]; exact h2 rfl
theorem ifD {c A B : Prop} [Decidable c] (h1 : c → A) (h2 : ¬ c → B) : if decide c = true then A else B := ifB (fun e => h1 (of_decide_eq_true e)) (fun e => h2 (of_decide_eq_false e))
theorem ifN {c A B : Prop} [Decidable c] (h1 : ¬ c → A) (h2 : c → B) : if (!decide c) = true then A else B := by
  by_cases h : c
  · rw [decide_eq_true h]; exact h2 h
  · rw [decide_eq_false h]; exact h1 h
theorem ifT {b : Bool} {A B : Prop} (e : b = true) (h1 : A) : if b = true then A else B := by rw [if_pos e]; exact h1
theorem ifF {b : Bool} {A B : Prop} (e : b = false) (h1 : B) : if b = true then A else B := by rw [e, if_neg Bool.false_ne_true]; exact h1
theorem szL {n : Nat} (h : n ≤ 1000) : n ≤ sizeLine := Nat.le_trans h (by decide)
theorem szl {n : Nat} (h : n ≤ 1000) : n < sizeLine := Nat.lt_of_le_of_lt h (by decide)
theorem atI_ok {xs : List V} {i : Int} {j : Nat} {v : V} (h0 : 0 ≤ i) (e : i.toNat = j) (h : xs[j]? = some v) : atI xs i = some v := at_of (by omega) h
theorem ints_at {ns : List Int} {k : Int} (h0 : 0 ≤ k) (h1 : k < ns.length) : ∃ z, atI (ns.map V.int) k = some (.int z) := by
  have h2 : k.toNat < ns.length := by omega
  exact ⟨ns[k.toNat], atI_ok h0 rfl (by rw [List.getElem?_map, List.getElem?_eq_getElem h2]; rfl)⟩
theorem range_succ_map {α : Type} (f : Nat → α) (i : Nat) : (List.range (i + 1)).map f = (List.range i).map f ++ [f i] := by
  rw [List.range_succ, List.map_append]; rfl
theorem DtAll.snoc {K : PySem.W.Frag} {H : Hp} {v : List V} {d : List PyData} {x : V} {y : PyData} (h : DtAll K H v d) (k : Dt K H x y) : DtAll K H (v ++ [x]) (d ++ [y]) := h.append (.cons k .nil)
theorem same_lst {H H' : Hp} {p : Addr} {o : HO} (s : Same H H') (n : H p = none) : Same H (upd H' p o) := fun a u e => by
  rw [upd_ne (ne_of_none e n)]
  exact s a u e
theorem natAbs_abs {i : Int} : 0 ≤ (if i < 0 then -i else i) := by split <;> omega
theorem pick2 (b : Bool) (u v : Int) : atI [.int u, .int v] (if b = true then 1 else 0) = some (V.int (if b = true then v else u)) := by
  cases b <;> rfl
theorem ite_ge0 {b : Bool} {u v : Int} (h1 : 0 ≤ u) (h2 : 0 ≤ v) : 0 ≤ (if b = true then v else u) := by cases b <;> assumption
theorem mem_at {xs : List V} {k : Int} (h0 : 0 ≤ k) (h1 : k < xs.length) : ∃ v, v ∈ xs ∧ atI xs k = some v := by
  have h2 : k.toNat < xs.length := by omega
  exact ⟨xs[k.toNat], List.getElem_mem h2, atI_ok h0 rfl (List.getElem?_eq_getElem h2)⟩
/-! reading tuples of data -/
def atD (ds : List PyData) (i : Int) : Option PyData := (ixN ds.length i).bind fun j => ds[j]?
theorem DtAll.at {K : PySem.W.Frag} {H : Hp} {xs : List V} {ds : List PyData} {i : Int} {d : PyData} (h : DtAll K H xs ds) (e : atD ds i = some d) : ∃ v, atI xs i = some v ∧ Dt K H v d := by
  unfold atD at e
  unfold atI
  rw [h.length]
  cases q : ixN ds.length i with
  | none => rw [q] at e; cases e
  | some j =>
    rw [q] at e
    exact h.get e
theorem rix_dt {K : PySem.W.Frag} {H : Hp} {v : V} {i : Int} {ds : List PyData} {d : PyData} {Q : VK} (h : Dt K H v (.tuple ds)) (e : atD ds i = some d) (q : ∀ y, Dt K H y d → Q y H) : rIxT K v (.int i) H Q := by
  cases h with
  | tup hs ha =>
    obtain ⟨y, h1, h2⟩ := ha.at e
    exact ⟨_, _, _, _, rfl, rfl, hs, h1, q y h2⟩
theorem Dt.int_eq {K : PySem.W.Frag} {H : Hp} {v : V} {i : Int} (h : Dt K H v (.int i)) : v = .int i := by cases h; rfl
theorem Dt.str_eq {K : PySem.W.Frag} {H : Hp} {v : V} {i : Str} (h : Dt K H v (.str i)) : v = .str i := by cases h; rfl
theorem atD_nat {ds : List PyData} {j : Nat} {d : PyData} (e : ds[j]? = some d) : atD ds ((j : Nat) : Int) = some d := by
  have h := (List.getElem?_eq_some_iff.mp e).1
  unfold atD ixN
  rw [if_pos (by omega), if_pos (by omega)]
  exact e
theorem atD_last {ds : List PyData} {d : PyData} (h : 0 < ds.length) (e : ds[ds.length - 1]? = some d) : atD ds (-1) = some d := by
  unfold atD ixN
  rw [if_neg (by omega), if_pos (by omega)]
  show ds[((-1 : Int) + ds.length).toNat]? = some d
  rw [show ((-1 : Int) + ds.length).toNat = ds.length - 1 by omega]
  exact e
def tyD : PyData → String
  | .none => "NoneType"
  | .bool _ => "bool"
  | .int _ => "int"
  | .str _ => "str"
  | .list _ => "list"
  | .tuple _ => "tuple"
  | .dict _ => "dict"
theorem sqT_ty {K : PySem.W.Frag} {H : Hp} {a : Addr} {xs : List V} (h : SqT K H a xs) : TyX K H (.ref a) (.type "tuple") := by
  rcases h with (h | ⟨o, h⟩) | ⟨o, its, n, h1, h2, _⟩
  · exact .base (.tup h)
  · exact .fTuple h
  · exact .kTuple h1 h2
theorem Dt.ty {K : PySem.W.Frag} {H : Hp} {v : V} {d : PyData} (h : Dt K H v d) : TyX K H v (.type (tyD d)) := by
  cases h with
  | non => exact .base .non
  | bl b => exact .base (.bl b)
  | int i => exact .base (.int i)
  | str x => exact .base (.str x)
  | tup h _ => exact sqT_ty h
theorem neF {a b : Int} (h : a = b) : (!decide (V.int a = V.int b)) = false := by rw [h]; simp
theorem Dt.len {K : PySem.W.Frag} {H : Hp} {a : Addr} {ds : List PyData} (h : Dt K H (.ref a) (.tuple ds)) : ∃ xs, SqT K H a xs ∧ xs.length = ds.length ∧ DtAll K H xs ds := by
  cases h with
  | tup h hs => exact ⟨_, h, hs.length, hs⟩

structure okD (k : Nat) (d : PyData) : Prop where
  lay : d.canLay0 = true
  dep : d.depth ≤ k
theorem okD.mono {k l : Nat} {d : PyData} (h : okD k d) (e : k ≤ l) : okD l d := ⟨h.lay, Nat.le_trans h.dep e⟩
theorem okD_all {k : Nat} : ∀ {ds : List PyData}, (∀ d ∈ ds, okD k d) → PyData.canLayAll0 ds = true ∧ PyData.depthAll ds ≤ k
  | [], _ => ⟨rfl, Nat.zero_le _⟩
  | d :: ds, h => by
    have h1 := h d List.mem_cons_self
    have h2 := okD_all (ds := ds) fun x hx => h x (List.mem_cons_of_mem _ hx)
    refine ⟨?_, ?_⟩
    · show (PyData.canLay0 d && PyData.canLayAll0 ds) = true
      rw [h1.lay, h2.1]; rfl
    · show max (PyData.depth d) (PyData.depthAll ds) ≤ k
      exact Nat.max_le.mpr ⟨h1.dep, h2.2⟩
theorem okD.tuple {k : Nat} {ds : List PyData} (h : ∀ d ∈ ds, okD k d) : okD (k + 1) (.tuple ds) :=
  have q := okD_all h
  ⟨q.1, Nat.succ_le_succ q.2⟩
theorem okD.list {k : Nat} {ds : List PyData} (h : ∀ d ∈ ds, okD k d) : okD (k + 1) (.list ds) :=
  have q := okD_all h
  ⟨q.1, Nat.succ_le_succ q.2⟩
theorem okD.shaped {k : Nat} {d : PyData} (h : okD k d) (hk : k ≤ 64) : SeqAt.shaped d = true := by
  unfold SeqAt.shaped
  rw [h.lay, decide_eq_true (Nat.le_trans h.dep hk)]; rfl
theorem eqv_self {k : Nat} {d : PyData} (h : okD k d) : PyData.eqv d d = true := SeqAt.eqv_refl d h.lay
theorem rne_dt {K : PySem.W.Frag} {H : Hp} {x y : V} {k : Nat} {d : PyData} {Q : VK} (hx : Dt K H x d) (hy : Dt K H y d) (o : okD k d) (hk : k ≤ 64) (q : Q (.bl false) H) : rNeD K x y H Q :=
  ⟨d, d, hx.dp, hy.dp, o.shaped hk, o.shaped hk, by rw [eqv_self o]; exact q⟩
theorem req_dt {K : PySem.W.Frag} {H : Hp} {x y : V} {k : Nat} {d : PyData} {Q : VK} (hx : Dt K H x d) (hy : Dt K H y d) (o : okD k d) (hk : k ≤ 64) (q : Q (.bl true) H) : rEqD K x y H Q :=
  ⟨d, d, hx.dp, hy.dp, o.shaped hk, o.shaped hk, by rw [eqv_self o]; exact q⟩

theorem atD0 {ds : List PyData} {d : PyData} (e : ds[0]? = some d) : atD ds 0 = some d := atD_nat (j := 0) e
theorem atD1 {ds : List PyData} {d : PyData} (e : ds[1]? = some d) : atD ds 1 = some d := atD_nat (j := 1) e
theorem atD2 {ds : List PyData} {d : PyData} (e : ds[2]? = some d) : atD ds 2 = some d := atD_nat (j := 2) e
theorem atD3 {ds : List PyData} {d : PyData} (e : ds[3]? = some d) : atD ds 3 = some d := atD_nat (j := 3) e
theorem atDi {ds : List PyData} {d : PyData} {i : Int} {j : Nat} (h : i = (j : Int)) (e : ds[j]? = some d) : atD ds i = some d := by
  subst h
  exact atD_nat e

theorem floor_step {a b n : Int} (h : 0 < n) : b / n ≤ (a + b) / n - a / n ∧ (a + b) / n - a / n ≤ b / n + 1 := by
  have ha := Int.emod_add_mul_ediv a n
  have hb := Int.emod_add_mul_ediv b n
  have a0 := Int.emod_nonneg a (show n ≠ 0 by omega)
  have a1 := Int.emod_lt_of_pos a h
  have b0 := Int.emod_nonneg b (show n ≠ 0 by omega)
  have b1 := Int.emod_lt_of_pos b h
  have e : (a + b) / n = a / n + b / n + (a % n + b % n) / n := by
    have : a + b = (a % n + b % n) + n * (a / n + b / n) := by rw [Int.mul_add]; omega
    rw [this, Int.add_mul_ediv_left _ _ (by omega), Int.add_comm]
  have q0 : 0 ≤ (a % n + b % n) / n := Int.ediv_nonneg (by omega) (by omega)
  have q1 : (a % n + b % n) / n < 2 := by
    apply Int.ediv_lt_of_lt_mul h
    omega
  omega

theorem take_snoc {α : Type} {l : List α} {i : Nat} {x : α} (h : l[i]? = some x) : l.take (i + 1) = l.take i ++ [x] := by
  rw [List.take_add_one, h]; rfl
theorem map_int_get {acc : List Int} {i : Nat} {x : V} (h : (acc.map V.int)[i]? = some x) : ∃ z, acc[i]? = some z ∧ x = .int z := by
  rw [List.getElem?_map] at h
  cases e : acc[i]? with
  | none => rw [e] at h; cases h
  | some z =>
    rw [e] at h
    exact ⟨z, rfl, (Option.some.inj h).symm⟩

theorem Dt.ix {K : PySem.W.Frag} {H : Hp} {v : V} {i : Int} {ds : List PyData} {d : PyData} (h : Dt K H v (.tuple ds)) (e : atD ds i = some d) : ∃ a xs y, v = .ref a ∧ SqT K H a xs ∧ atI xs i = some y ∧ Dt K H y d := by
  cases h with
  | tup hs ha =>
    obtain ⟨y, h1, h2⟩ := ha.at e
    exact ⟨_, _, _, rfl, hs, h1, h2⟩

/-! displays of data -/
def EvD (K : PySem.W.Frag) (te : TE) (σ : L2.St) (H : Hp) (d : PyData) : Prop := ∀ Q : VK, (∀ v H', Same H H' → Dt K H' v d → Q v H') → te σ H Q
def EvDs (K : PySem.W.Frag) (ta : TA) (σ : L2.St) (H : Hp) (ds : List PyData) : Prop := ∀ Q : List V → Hp → Prop, (∀ vs H', Same H H' → DtAll K H' vs ds → Q vs H') → ta σ H Q
section
variable {K : PySem.W.Frag} {σ : L2.St} {H : Hp}
theorem evd_int {i : Int} : EvD K (tC (.int i)) σ H (.int i) := fun _ q => q _ _ (Same.refl _) (.int i)
theorem evd_str {i : Str} : EvD K (tC (.str i)) σ H (.str i) := fun _ q => q _ _ (Same.refl _) (.str i)
theorem evd_non : EvD K (tC .non) σ H .none := fun _ q => q _ _ (Same.refl _) .non
theorem evd_bl {b : Bool} : EvD K (tC (.bl b)) σ H (.bool b) := fun _ q => q _ _ (Same.refl _) (.bl b)
theorem evd_nil : EvDs K tNil σ H [] := fun _ q => q _ _ (Same.refl _) .nil
theorem evd_cons {te : TE} {ta : TA} {d : PyData} {ds : List PyData} (h : EvD K te σ H d) (hr : ∀ H', EvDs K ta σ H' ds) : EvDs K (tCons te ta) σ H (d :: ds) := fun Q q =>
  h _ fun v H1 s1 d1 => hr H1 _ fun vs H2 s2 d2 => q _ _ (s1.trans s2) (.cons (d1.mono (Fz.of_same s2)) d2)
theorem evd_tup {ta : TA} {ds : List PyData} (h : EvDs K ta σ H ds) (hl : ds.length ≤ 1000) : EvD K (tTup ta) σ H (.tuple ds) := fun Q q =>
  h _ fun vs H1 s1 d1 => ⟨szL (by rw [d1.length]; exact hl), fun p hp => q _ _ (s1.trans (same_new hp)) (.tup (SqT.of upd_same) (d1.mono (Fz.new hp)))⟩
end
theorem same_but {b : Addr} {H H1 H2 : Hp} (s : Same H H1) (k : But b H1 H2) (n : H b = none) : Same H H2 := fun a o h => k a o (ne_of_none h n) (s a o h)

theorem rel_ref (a : Addr) : RelV (.ref a) (Value.ref a) := rfl
end Rs
/-! Own exceptions with a field; objects made within a try. -/
namespace Rs
open PySem PySem.Spec PyProof.Rows L2
/-! ### C(e, ..) where what its __init__ lets out is wished for at the caller's slots -/
section
variable {X : Cx} {CX : CXT} {k : Nat} {f C : Addr} {fd : FuncData} {ps : List Str} {sp : Sp} {E : L2.St → XK} {x : Str} {p pos : Pos} {e : Expr} {es : List Expr} {t : TA}
theorem run_makeS {pins : List (Addr × Obj)} {σ : L2.St} {H : Hp} {s : Shared} {Q : VK} {us : List Value} {vs : List V} (M : Mk X.K C f) (F : FnOk X.prog X.w X.K X.mg X.base CX k f fd ps sp) (hr : Room (k + 1) X.A) (hb : Binds X.K fd ps [])
    (hx : PassesAt CX X σ (E σ)) (I : Inv X pins σ H s) (r : Vals vs us)
    (pre : ∀ x dx, H x = none → H dx = none → dx ≠ x → sp (.ref x :: vs) (upd (upd H dx (.own x)) x (.ins C dx [])) (fun v H2 => v = .non ∧ Q (.ref x) H2) (E σ))
    (out : ∀ H1 s1 e s2, Inv X pins σ H1 s1 → L2.CX X.prog X.w X.stack H1 s1 (E σ) e s2 → X.xe e s2) (hCX : CX = L2.CX X.prog X.w) :
    wpAny (model X.prog X.w) X.A (call (.ref C) us) (EP X pins σ Q) X.xe s := by
  subst hCX
  have p0 := pre (s.heap.objs.size + 1) s.heap.objs.size (I.hok.fresh (Nat.le_succ _)) (I.hok.fresh (Nat.le_refl _)) (Nat.ne_of_lt (Nat.lt_succ_self _))
  have J := Inv.made (C := C) I
  have rel : Vals (V.ref (s.heap.objs.size + 1) :: vs) (Value.ref (s.heap.objs.size + 1) :: us) := .cons rfl r
  have n1 : (Value.ref (s.heap.objs.size + 1) :: us).length = ps.length := by rw [← rel.length]; exact F.len _ _ _ _ p0
  have bd := hb _ (Value.ref (s.heap.objs.size + 1) :: us) J.kIn (by rw [List.append_nil]; exact n1)
  rw [List.append_nil] at bd
  have ran := F.run _ X.stack _ _ ⟨Value.ref (s.heap.objs.size + 1) :: us, []⟩ _ _ _ (E σ) (hr.make C us []) (J.env0.make C us []) bd rel p0
  refine wpAny_call (make_map (f := f) I.kIn M.makes M.init (beq_iff_eq.mp M.fn) (codeAny_mono ran fun r s' got => ?_))
  cases r with
  | error e => exact out _ _ _ _ J got
  | ok fl =>
    cases fl with
    | next => exact got.elim
    | brk => exact got.elim
    | cont => exact got.elim
    | ret u =>
      obtain ⟨v, H', J2, rv, rfl, q⟩ := J.after got
      exact ⟨rv, .ref (s.heap.objs.size + 1), H', J2, rfl, q⟩
def tMakeS (C : Addr) (sp : Sp) (E : L2.St → XK) (t : TA) : TE := fun σ H Q => t σ H fun vs H1 => ∀ x dx, H1 x = none → H1 dx = none → dx ≠ x →
  sp (.ref x :: vs) (upd (upd H1 dx (.own x)) x (.ins C dx [])) (fun v H2 => v = .non ∧ Q (.ref x) H2) (E σ)
theorem pe_makeS {W : WX} (M : Mk X.K C f) (F : FnOk X.prog X.w X.K X.mg X.base (L2.CX X.prog X.w) k f fd ps sp) (hr : Room (k + 1) X.A) (hg : Gl X x) (hm : X.mg x = some (.ref C)) (hb : Binds X.K fd ps []) (tk : Takes X W)
    (ha : PA X (e :: es) t) (hdb : (x == ("__debug__" : Str)) = false := by decide) (he : starEach (e :: es) X.env = (false, eval e X.env) :: starEach es X.env := by rfl) (hpl : (backTo pos (starEach es X.env)).any (·.1) = false := by rfl) :
    PE X (.Call (.Name x p) (e :: es) [] pos) (tMakeS C sp (WE W) t) := by
  refine ⟨fun pins s σ H Q I h => wpAny_Call_Name_kw (ld_glob I hg hm ?_ hdb)⟩
  refine PySem.W.callWith_K (h₀ := X.base) I.ok.mod.kin M.kp (thn (ha.run pos pins s σ H _ I h) fun us s1 res => ?_) he hpl
  obtain ⟨vs, H1, I1, r, q⟩ := res
  exact ⟨I1.kIn, run_makeS M F hr hb (passAt tk σ) I1 r q (fun H1 s1 e s2 J c => tk e s2 (XE.of_call J (fun _ _ _ h => h) c)) rfl⟩
end
/-! ### isinstance of a caught exception that has a field -/
structure ExX (K : PySem.W.Frag) (C : Addr) : Prop where
  cl : (PySem.W.clsIn K C).isSome = true
  ga : PySem.W.findIn K (.ref C) "__getattribute__" = some (some (.builtin "BaseException.__getattribute__"))
  gg : PySem.W.findIn K (.ref C) "__getattr__" = some none
  sb : PySem.W.subIn K (.ref C) (.type "BaseException") = some true
  ca : PySem.W.findIn K (.ref C) "__class__" = some (some (.builtin "object.__class__"))
  sp : PySem.W.specialIn K (.builtin "object.__class__") "__get__" = some (some (.builtin "getset_descriptor.__get__"))
  tk : PySem.W.takesIn K (.builtin "object.__class__") = some true
  mo : PySem.W.mroIn K C (.type "object") = some true
section
variable {X : Cx} {pins : List (Addr × Obj)} {σ : L2.St} {H : Hp} {s : Shared} {a C : Addr} {oe : Obj} {cls : Value} {d : Option Addr} {pn : List (Addr × Obj)}
theorem caught_at (I : Inv (X.suite a ((a, oe) :: pn)) pins σ H s) (hz : Zc cls d oe) (hf : ∃ vs, oe.data = .fields vs) {dd : Addr} {fs : List (Str × V)} (ec : cls = .ref C) (ed : d = some dd) (hd : H dd = some (.xd fs)) :
    ∃ od, PySem.W.InstAt s.heap a oe C (some od) := by
  subst ec ed
  obtain ⟨here, _⟩ := I.pin (a, oe) (List.mem_append_left _ List.mem_cons_self)
  obtain ⟨vs, hv⟩ := hf
  obtain ⟨mA, ns, _⟩ := (show ObjOk X.prog X.w H s.heap dd (.xd fs) from I.hok dd _ hd)
  obtain ⟨od, ho, _⟩ := lookIn_ns ns
  exact ⟨od, here, hz.1, by unfold PySem.W.notCls; rw [hv] <;> rfl, by rw [hz.2]; exact ho⟩
def rIsX (K : PySem.W.Frag) (a : Addr) (cls : Value) (d : Option Addr) (C : Addr) : List V → Hp → VK → Prop := fun xs H Q => ∃ (c : V) (cv : Value) (b : Bool) (dd : Addr) (fs : List (Str × V)), xs = [.ref a, c] ∧ ClsV c cv ∧ cls = .ref C ∧ d = some dd ∧ H dd = some (.xd fs) ∧ PySem.W.kitOne K (.ref C) cv = some b ∧ Q (.bl b) H
theorem call_isX (T : ExX X.K C) (hz : Zc cls d oe) (hf : ∃ vs, oe.data = .fields vs) : CallR (X.suite a ((a, oe) :: pn)) (.builtin "isinstance") (rIsX X.K a cls d C) := by
  intro pins s σ H xs us Q I r h
  obtain ⟨c, cv, b, dd, fs, rfl, kc, ec, ed, hd, e, q⟩ := h
  obtain ⟨u1, u2, rfl, r1, r2⟩ := vals2 r
  obtain rfl := kc.eq r2
  cases (show u1 = Value.ref a from r1)
  obtain ⟨od, J⟩ := caught_at I hz hf ec ed hd
  exact PySem.W.kia_one (PySem.W.kitx_exc T.cl T.ga T.gg T.sb T.ca T.sp T.tk T.mo) I.kIn J e (fun z => nomatch z) fun tk => ⟨.bl b, H, I.tok tk, rfl, q⟩
def rIsXT (K : PySem.W.Frag) (a : Addr) (cls : Value) (d : Option Addr) (C : Addr) : List V → Hp → VK → Prop := fun xs H Q => ∃ (tp : Addr) (cs : List V) (ws : List Value) (b : Bool) (dd : Addr) (fs : List (Str × V)), xs = [.ref a, .ref tp] ∧ H tp = some (.tup cs) ∧ Paired ClsV cs ws ∧
  cls = .ref C ∧ d = some dd ∧ H dd = some (.xd fs) ∧ PySem.W.kitAny K (.ref C) ws = some b ∧ Q (.bl b) H
theorem call_isXT (T : ExX X.K C) (hz : Zc cls d oe) (hf : ∃ vs, oe.data = .fields vs) : CallR (X.suite a ((a, oe) :: pn)) (.builtin "isinstance") (rIsXT X.K a cls d C) := by
  intro pins s σ H xs us Q I r h
  obtain ⟨tp, cs, ws, b, dd, fs, rfl, hT, kc, ec, ed, hd, e, q⟩ := h
  obtain ⟨u1, u2, rfl, r1, r2⟩ := vals2 r
  cases (show u1 = Value.ref a from r1)
  cases (show u2 = Value.ref tp from r2)
  obtain ⟨od, J⟩ := caught_at I hz hf ec ed hd
  obtain ⟨_, its, rv, o, h1, h2, n, h3⟩ := (show ObjOk X.prog X.w H s.heap tp (.tup cs) from I.hok tp _ hT)
  obtain rfl := ClsV.all kc rv
  obtain ⟨oc, od', dt, sl⟩ := o
  simp only at h2 h3
  subst h2 h3
  exact PySem.W.kia_tup (PySem.W.kitx_exc T.cl T.ga T.gg T.sb T.ca T.sp T.tk T.mo) I.kIn J h1 e (fun z => nomatch z) fun tk => ⟨.bl b, H, I.tok tk, rfl, q⟩
end
/-! ### the promise of an __init__(self, word): self.word = word -/
def spExc (C : Addr) (f : Str) : Sp := fun vs H Q _ => ∃ (a : Addr) (v : V), vs = [.ref a, v] ∧ H a = some (exo a C none) ∧ ∀ dx, H dx = none → dx ≠ a → Q .non (upd (upd H dx (exd dx [(f, v)])) a (exo a C (some dx)))
/-- the heap behind an exception's making -/
theorem made_heap {H : Hp} {a dx : Addr} {o1 o2 o3 o : HO} (ha : H a = none) (ne : dx ≠ a) : upd (del (upd (upd (upd H a o1) dx o2) a o3) a) dx o = upd H dx o := by
  funext b
  by_cases h1 : b = dx
  · subst h1; rw [upd_same, upd_same]
  · rw [upd_ne h1, upd_ne h1]
    by_cases h2 : b = a
    · subst h2; rw [del_same, ha]
    · rw [del_ne h2, upd_ne h2, upd_ne h1, upd_ne h2]
/-- what C(v) asks, where C's __init__ keeps spExc: its dict is new, the rest as it was -/
theorem make_exc {C : Addr} {f : Str} {v : V} {σ : L2.St} {H : Hp} {Q : XK} (h : ∀ d, H d = none → Q (.ref C) (some d) (upd H d (.xd [(f, v)]))) : tMkO C (spExc C f) [] (tCons (tC v) tNil) σ H Q := by
  refine ⟨by show 1 ≤ 1000; decide, fun a ha => ⟨a, v, rfl, upd_same, fun dx hdx ne => ⟨rfl, dx, [(f, v)], upd_same, by rw [upd_ne ne, upd_same], ?_, ?_⟩⟩⟩
  · rw [upd_ne ne] at hdx
    exact hdx
  · rw [made_heap ha ne]
    exact h dx (by rw [upd_ne ne] at hdx; exact hdx)
end Rs
/-! Values of any kind, told by their outermost shape. -/
namespace Rs
open PySem PySem.Spec PyProof.Rows L2
def Sh (b : Addr) (H : Hp) : V → Prop
  | .non => True
  | .bl _ => True
  | .int _ => True
  | .str _ => True
  | .ref a => a ≠ b ∧ ((∃ xs, H a = some (.lst xs)) ∨ ∃ xs, H a = some (.tup xs))
  | _ => False
theorem Sh.but {b : Addr} {H H' : Hp} {v : V} (h : Sh b H v) (k : But b H H') : Sh b H' v := by
  cases v with
  | ref a =>
    obtain ⟨ne, ⟨xs, e⟩ | ⟨xs, e⟩⟩ := h
    · exact ⟨ne, .inl ⟨xs, k a _ ne e⟩⟩
    · exact ⟨ne, .inr ⟨xs, k a _ ne e⟩⟩
  | non => trivial
  | bl _ => trivial
  | int _ => trivial
  | str _ => trivial
  | byt _ => exact h
  | flt _ => exact h
  | ty _ => exact h
def isInt : V → Bool
  | .int _ => true
  | _ => false
def isBl : V → Bool
  | .bl _ => true
  | _ => false
theorem Sh.ty {K : PySem.W.Frag} {b : Addr} {H : Hp} {v : V} (h : Sh b H v) : ∃ t, TyX K H v (.type t) ∧ kitB t "int" = some (isInt v || isBl v) ∧ kitB t "bool" = some (isBl v) := by
  cases v with
  | non => exact ⟨"NoneType", .base .non, by decide +kernel, by decide +kernel⟩
  | bl x => exact ⟨"bool", .base (.bl x), (by decide +kernel : kitB "bool" "int" = some true), (by decide +kernel : kitB "bool" "bool" = some true)⟩
  | int x => exact ⟨"int", .base (.int x), (by decide +kernel : kitB "int" "int" = some true), (by decide +kernel : kitB "int" "bool" = some false)⟩
  | str x => exact ⟨"str", .base (.str x), (by decide +kernel : kitB "str" "int" = some false), (by decide +kernel : kitB "str" "bool" = some false)⟩
  | ref a =>
    obtain ⟨ne, ⟨xs, e⟩ | ⟨xs, e⟩⟩ := h
    · exact ⟨"list", .base (.lst e), (by decide +kernel : kitB "list" "int" = some false), (by decide +kernel : kitB "list" "bool" = some false)⟩
    · exact ⟨"tuple", .base (.tup e), (by decide +kernel : kitB "tuple" "int" = some false), (by decide +kernel : kitB "tuple" "bool" = some false)⟩
  | byt _ => exact h.elim
  | flt _ => exact h.elim
  | ty _ => exact h.elim
/-- whether a value is an integer that is no bool -/
def spWhole : Sp := fun vs H Q _ => ∃ (b : Addr) (v : V), vs = [v] ∧ Sh b H v ∧ Q (.bl (isInt v)) H
theorem isInt_bl {v : V} : (isInt v || isBl v) = true → (!isBl v) = isInt v := by cases v <;> simp [isInt, isBl]
theorem isInt_no {v : V} : (isInt v || isBl v) = false → false = isInt v := by cases v <;> simp [isInt, isBl]
/-- repr of None and of a text -/
def reprV : V → Str
  | .str x => reprText x
  | _ => "None"
theorem call_repr1 {X : Cx} : CallR X (.builtin "repr") (fun xs H Q => ∃ v, xs = [v] ∧ (v = .non ∨ ∃ x : Str, v = .str x ∧ (reprText x).length ≤ sizeLine) ∧ Q (.str (reprV v)) H) := by
  intro pins s σ H xs us Q I r h
  obtain ⟨v, rfl, rfl | ⟨x, rfl, ln⟩, q⟩ := h
  · obtain ⟨u, rfl, ru⟩ := vals1 r
    obtain rfl : u = Value.none := ru
    exact PySem.P.repr_of_none ⟨.str _, H, I.tok _, ⟨_, rfl⟩, q⟩
  · obtain ⟨u, rfl, t, rfl⟩ := vals1 r
    exact PySem.P.repr_of_str ⟨.str _, H, I.tok _, ⟨_, rfl⟩, q⟩ ln
theorem but_new {b D : Addr} {H H' : Hp} {o : HO} (k : But b H H') (n : H D = none) : But b H (upd H' D o) := fun a u ne e => by
  rw [upd_ne (ne_of_none e n)]
  exact k a u ne e
theorem box_ne {b D : Addr} {H : Hp} {o : HO} (B : Box H b) (ne : D ≠ b) : Box (upd H D o) b := by
  obtain ⟨x, y, z, h, i⟩ := B
  exact ⟨x, y, z, by rw [upd_ne ne.symm]; exact h, i⟩

theorem look1 {f : Str} {v : V} : List.lookup f [(f, v)] = some v := by simp [List.lookup]
theorem Sh.set {b t : Addr} {H : Hp} {v : V} {xs ys : List V} (h : Sh b H v) (e : H t = some (.lst xs)) : Sh b (upd H t (.lst ys)) v := by
  cases v with
  | ref a =>
    obtain ⟨ne, q⟩ := h
    refine ⟨ne, ?_⟩
    by_cases c : a = t
    · subst c
      exact .inl ⟨_, upd_same⟩
    · rw [upd_ne c]
      exact q
  | non => trivial
  | bl _ => trivial
  | int _ => trivial
  | str _ => trivial
  | byt _ => exact h
  | flt _ => exact h
  | ty _ => exact h
end Rs
/-! Dicts of ints as sets; comprehensions over anything walked; a bool > an int; values by two levels of shape. -/
namespace Rs
open PySem PySem.Spec PyProof.Rows L2
/-! ### a bool > an int -/
section
variable {prog : Program} {w : World} {A : Around} {E : Value → Shared → Prop} {s : Shared}
theorem gives_gt_bool (c : Bool) (j : Int) (u : Tok) : Gives (Builtin.«int.__gt__» ⟨[.bool c, .int j u], []⟩) (.val (Value.bool (decide (j < (if c = true then (1 : Int) else 0))))) :=
  .of_wp fun M A E s Q h => by
    obtain ⟨hp, g, d, tk, os⟩ := s
    wp_walk
    exact ⟨_, rfl, h⟩
theorem gt_bool_int {c : Bool} {j : Int} {u : Tok} {Q : Value → Shared → Prop} (h : Q (.bool (decide (j < (if c = true then (1 : Int) else 0)))) s) : wpAny (model prog w) A (compareOp .Gt (.bool c) (.int j u)) Q E s := by
  show wpAny _ _ (richCompare .Gt (.bool c) (.int j u)) Q E s
  exact wpAny_richCompare_left (op := .Gt) (Ta := "bool") (Tb := "int") rfl (typeIs_int s j u) (by decide) F.sub_int_bool F.slot_bool_gt
    (call_gives F.slot_bool_gt rfl F.entry_int_gt (F.args_int_gt_2 _ _) (gives_gt_bool c j u) ⟨nofun, h⟩)
end
/-- an int or a bool > an int -/
def gtI (v : V) (j : Int) : Bool := match v with
  | .int i => decide (j < i)
  | .bl c => decide (j < (if c = true then (1 : Int) else 0))
  | _ => false
def rGtI : R2 := fun x y H Q => ∃ j, y = .int j ∧ ((∃ i, x = .int i) ∨ ∃ c, x = .bl c) ∧ Q (.bl (gtI x j)) H
theorem op_gtI {X : Cx} : OpR X (compareOp .Gt) rGtI := by
  intro pins s σ H x y v u Q I rx ry h
  obtain ⟨j, rfl, ⟨i, rfl⟩ | ⟨c, rfl⟩, q⟩ := h
  · exact op_gt pins s σ H _ _ v u Q I rx ry ⟨i, j, rfl, rfl, q⟩
  · obtain ⟨t, rfl⟩ := ry
    cases (show v = Value.bool c from rx)
    exact gt_bool_int ⟨.bl _, H, I, rfl, q⟩
/-! ### y in a dict -/
def rInDict : R2 := fun y x H Q => ∃ a o, x = .ref a ∧ DGet H a y o ∧ Q (.bl o.isSome) H
theorem op_inDict {X : Cx} (hu : X.A.units + 1 < cLine) : OpR X (compareOp .In) rInDict := by
  intro pins s σ H y x v u Q I ry rx h
  obtain ⟨a, o, rfl, g, q⟩ := h
  cases (show u = Value.ref a from rx)
  exact d_in hu I g ry fun s3 I3 => ⟨.bl o.isSome, H, I3, rfl, q⟩
/-- the int keys of a dict are just these -/
def KeysI (kvs : List (Key × V)) (ns : List Int) : Prop := (∀ i : Int, (valV kvs (.inl i)).isSome = decide (i ∈ ns)) ∧ kvs.length ≤ ns.length
theorem KeysI.nil : KeysI [] [] := ⟨fun i => by simp [valV], Nat.le_refl _⟩
theorem KeysI.snoc {kvs : List (Key × V)} {ns : List Int} (h : KeysI kvs ns) (i : Int) (v : V) : KeysI (putK kvs (.inl i) v) (ns ++ [i]) := by
  refine ⟨fun j => ?_, ?_⟩
  · rw [valV_put]
    by_cases e : j = i
    · subst e
      simp
    · have e' : ¬ ((Sum.inl j : Key) = .inl i) := fun q => e (Sum.inl.inj q)
      rw [if_neg e', h.1 j]
      simp [e]
  · have l1 := length_putK kvs (Sum.inl i : Key) v
    have l2 := h.2
    rw [List.length_append]
    show _ ≤ ns.length + 1
    omega
theorem KeysI.get {kvs : List (Key × V)} {ns : List Int} (h : KeysI kvs ns) {H : Hp} {a : Addr} (e : H a = some (.dK kvs)) (i : Int) : ∃ o, DGet H a (.int i) o ∧ o.isSome = decide (i ∈ ns) :=
  ⟨_, DGet.k (k := (.inl i : Key)) e, h.1 i⟩
/-- a dict of ints stands at D -/
def SetI (H : Hp) (D : Addr) (ns : List Int) : Prop := ∃ kvs, H D = some (.dK kvs) ∧ KeysI kvs ns
theorem SetI.get {H : Hp} {D : Addr} {ns : List Int} (h : SetI H D ns) (i : Int) : ∃ o, DGet H D (.int i) o ∧ o.isSome = decide (i ∈ ns) := by
  obtain ⟨kvs, e, k⟩ := h
  exact k.get e i
theorem SetI.same {H H' : Hp} {D : Addr} {ns : List Int} (h : SetI H D ns) (s : Same H H') : SetI H' D ns := by
  obtain ⟨kvs, e, k⟩ := h
  exact ⟨kvs, s _ _ e, k⟩
/-- a dict comprehension over anything walked -/
theorem dc_it {J : It} {n : Nat} {G : Hp → Prop} {Y : Nat → Hp → V → Hp → Prop} (wk : Walk J n G Y) {g : TG} {tt : TT} {tk tv : TE} {vs : List Nat} {σ : L2.St} {H0 : Hp} {D : Addr} {Qe : Hp → Prop} (R : Nat → Hp → Prop) (start : R 0 (upd H0 D (.dK [])))
    (stay : ∀ j H, j ≤ n → R j H → G H)
    (turn : ∀ j x H H', j < n → R j H → Y j H x H' → g x (wipe σ vs) H' fun σ1 H1 => wipe σ1 vs = wipe σ vs ∧ tt σ1 H1 fun c H2 =>
      if c = true then tk σ1 H2 fun y H3 => tv σ1 H3 fun z H4 => ∃ ks k, y = kV k ∧ H4 D = some (.dK ks) ∧ ks.length < sizeLine ∧ R (j + 1) (upd H4 D (.dK (putK ks k z))) else R (j + 1) H2)
    (fin : ∀ H, R n H → Qe H) :
    ∃ W : Nat → Nat → Hp → Prop, (∃ m, W 0 m (upd H0 D (.dK []))) ∧ ∀ j m H, W j m H → (J.stop j H ∧ Qe H) ∨
      (J.go j H ∧ ∃ N : Hp → Prop, (∀ H', N H' → ∃ m', m' < m ∧ W (j + 1) m' H') ∧ ∀ x H', J.yld j H x H' → g x (wipe σ vs) H' fun σ1 H1 => wipe σ1 vs = wipe σ vs ∧ tt σ1 H1 fun c H2 =>
        if c = true then tk σ1 H2 fun y H3 => tv σ1 H3 fun z H4 => ∃ ks k, y = kV k ∧ H4 D = some (.dK ks) ∧ ks.length < sizeLine ∧ N (upd H4 D (.dK (putK ks k z))) else N H2) := by
  refine ⟨fun j m H => m + j = n ∧ R j H, ⟨n, rfl, start⟩, fun j m H hw => ?_⟩
  obtain ⟨em, hR⟩ := hw
  have gH := stay j H (by omega) hR
  cases m with
  | zero =>
    obtain rfl : j = n := by omega
    exact .inl ⟨wk.stops H gH, fin H hR⟩
  | succ m =>
    have lt : j < n := by omega
    refine .inr ⟨wk.goes j H lt gH, R (j + 1), fun H' hN => ⟨m, Nat.lt_succ_self m, by omega, hN⟩, fun x H' hy => ?_⟩
    exact turn j x H H' lt hR (wk.yields j H x H' lt gH hy)
/-! ### more of what stays -/
theorem But.free {b p : Addr} {H H' : Hp} (k : But b H H') (ne : p ≠ b) (h : H' p = none) : H p = none := by
  cases e : H p with
  | none => rfl
  | some o =>
    have := k p o ne e
    rw [h] at this
    cases this
/-- values told by their own shape and that of their things -/
def Tw (b : Addr) (H : Hp) : V → Prop
  | .ref a => a ≠ b ∧ ∃ xs, (H a = some (.lst xs) ∨ H a = some (.tup xs)) ∧ xs.length ≤ 100 ∧ ∀ x ∈ xs, Sh b H x
  | v => Sh b H v
theorem Tw.sh {b : Addr} {H : Hp} {v : V} (h : Tw b H v) : Sh b H v := by
  cases v with
  | ref a =>
    obtain ⟨n, xs, e | e, _⟩ := h
    · exact ⟨n, .inl ⟨xs, e⟩⟩
    · exact ⟨n, .inr ⟨xs, e⟩⟩
  | _ => exact h
theorem Tw.but {b : Addr} {H H' : Hp} {v : V} (h : Tw b H v) (k : But b H H') : Tw b H' v := by
  cases v with
  | ref a =>
    obtain ⟨n, xs, e, l, q⟩ := h
    exact ⟨n, xs, e.imp (k _ _ n) (k _ _ n), l, fun x hx => (q x hx).but k⟩
  | _ => exact h
theorem Tw.set {b t : Addr} {H : Hp} {v : V} {xs ys : List V} (h : Tw b H v) (e : H t = some (.lst xs)) (ne : v ≠ .ref t) : Tw b (upd H t (.lst ys)) v := by
  cases v with
  | ref a =>
    obtain ⟨n, zs, f, l, q⟩ := h
    have na : a ≠ t := fun z => ne (by rw [z])
    exact ⟨n, zs, by rw [upd_ne na]; exact f, l, fun x hx => (q x hx).set e⟩
  | _ => exact h
/-- a value that is no older object -/
def NewV (H : Hp) (v : V) : Prop := ∀ a, v = .ref a → H a = none
theorem NewV.ne {H : Hp} {v : V} {t : Addr} {o : HO} (h : NewV H v) (e : H t = some o) : v ≠ .ref t := fun z => by
  have := h t z
  rw [e] at this
  cases this
theorem NewV.but {b : Addr} {H H' : Hp} {v : V} (h : NewV H' v) (k : But b H H') (s : Sh b H' v) : NewV H v := fun a e => by
  subst e
  exact k.free s.1 (h a rfl)
/-! ### the things of a list or a tuple -/
def seqV (H : Hp) : V → Option (List V)
  | .ref a => match H a with
    | some (.lst xs) => some xs
    | some (.tup xs) => some xs
    | _ => none
  | _ => none
theorem seqV_lst {H : Hp} {a : Addr} {xs : List V} (h : H a = some (.lst xs)) : seqV H (.ref a) = some xs := by
  show (match H a with
    | some (.lst xs) => some xs
    | some (.tup xs) => some xs
    | _ => none) = _
  rw [h]
theorem seqV_tup {H : Hp} {a : Addr} {xs : List V} (h : H a = some (.tup xs)) : seqV H (.ref a) = some xs := by
  show (match H a with
    | some (.lst xs) => some xs
    | some (.tup xs) => some xs
    | _ => none) = _
  rw [h]
theorem seqV_tw {b : Addr} {H H' : Hp} {v : V} (h : Tw b H v) (k : But b H H') : seqV H' v = seqV H v := by
  cases v with
  | ref a =>
    obtain ⟨n, xs, e | e, _⟩ := h
    · rw [seqV_lst e, seqV_lst (k _ _ n e)]
    · rw [seqV_tup e, seqV_tup (k _ _ n e)]
  | _ => rfl
def inB (lo hi : Int) : V → Bool
  | .int i => decide (lo ≤ i) && decide (i < hi)
  | _ => false
/-- whether a value is a sequence of integers between -/
def btw (H : Hp) (lo hi : Int) (v : V) : Bool := match seqV H v with
  | some xs => xs.all (inB lo hi)
  | none => false
theorem btw_seq {H : Hp} {lo hi : Int} {v : V} {xs : List V} (h : seqV H v = some xs) : btw H lo hi v = xs.all (inB lo hi) := by
  unfold btw
  rw [h]
theorem btw_none {H : Hp} {lo hi : Int} {v : V} (h : seqV H v = none) : btw H lo hi v = false := by
  unfold btw
  rw [h]
theorem btw_tw {b : Addr} {H H' : Hp} {v : V} {lo hi : Int} (h : Tw b H v) (k : But b H H') : btw H' lo hi v = btw H lo hi v := by
  unfold btw
  rw [seqV_tw h k]
theorem all_inB {lo hi : Int} : ∀ {xs : List V}, xs.all (inB lo hi) = true → ∃ ns : List Int, xs = ns.map V.int ∧ ∀ n ∈ ns, lo ≤ n ∧ n < hi
  | [], _ => ⟨[], rfl, fun n h => nomatch h⟩
  | x :: xs, h => by
    rw [List.all_cons, Bool.and_eq_true] at h
    obtain ⟨ns, rfl, q⟩ := all_inB h.2
    cases x with
    | int i =>
      have h1 := h.1
      simp only [inB, Bool.and_eq_true, decide_eq_true_eq] at h1
      exact ⟨i :: ns, rfl, fun n hn => by
        rcases List.mem_cons.mp hn with e | e
        · subst e; exact h1
        · exact q n e⟩
    | _ => exact absurd h.1 (by simp [inB])
/-! ### n = {k: v for ..}, n a local name that no inner block keeps -/
theorem sw_dc {kx vx : Expr} {gs : List Comprehension} {sc : Scope} {p q : Pos} {n : Str} {ln : Nat} {ev : Env} (isf : ev.scope.kind = .function) (isl : ev.scope.names.lookup n = some .local) (same : (q.line == p.line) = true)
    (out : (sc.names.any fun (m, k) => m == n && (k == .local || k == .cell)) = false) : swapsWith (.DictComp kx vx gs sc p) (some (.Name n q)) ln ev = pure true := by
  have k1 : ev.kindOf n = some .local := isl
  have k2 : ev.blockKind = .function := by
    unfold Env.blockKind
    rw [isf]
    rfl
  unfold swapsWith
  simp only [k2, k1, out, Expr.pos, same]
  rfl
theorem ps_setDc {X : Cx} {i : Nat} {n : Str} {q : Pos} {kx vx tg it : Expr} {ifs : List Expr} {sc : Scope} {own : List (Str × Nat)} {p sp : Pos} {wi : TI} {g : TG} {tt : TT} {tk tv : TE} (calm : X.calm = true) (nd : X.N.Nodup) (hn : X.N[i]? = some n) (isl : X.env.scope.names.lookup n = some .local)
    (sw : swapsWith (.DictComp kx vx [⟨tg, it, ifs, 0⟩] sc p) (some (.Name n q)) sp.line X.env = pure true) (hi : PI X tg it wi) (ok : BlkOk X.N X.env.scope sc own)
    (r1 : ∀ (u : Shared) (H : Hp) (C : Addr) (cl : List (Str × Addr)) (fp : List Addr), PG (X.blk u H sc (compEnvC sc cl C X.env) fp) tg g) (r2 : ∀ (u : Shared) (H : Hp) (C : Addr) (cl : List (Str × Addr)) (fp : List Addr), PTs (X.blk u H sc (compEnvC sc cl C X.env) fp) ifs tt)
    (r3 : ∀ (u : Shared) (H : Hp) (C : Addr) (cl : List (Str × Addr)) (fp : List Addr), PE (X.blk u H sc (compEnvC sc cl C X.env) fp) kx tk) (r4 : ∀ (u : Shared) (H : Hp) (C : Addr) (cl : List (Str × Addr)) (fp : List Addr), PE (X.blk u H sc (compEnvC sc cl C X.env) fp) vx tv)
    (plain : ∀ x, foldedSetIterable it X.env x = pure x := by intro _; rfl) : PS X (.Assign [.Name n q] (.DictComp kx vx [⟨tg, it, ifs, 0⟩] sc p) sp) (tAsg (tDc wi g tt tk tv (own.map (·.2))) (gName i)) := by
  refine ⟨fun pins s σ H D I wish => ?_⟩
  have wish : tDc wi g tt tk tv (own.map (·.2)) σ H (fun x H1 => gName i x σ H1 D.nx) := wish
  rw [exec_Assign_Name_used _ _ _ _ sw]
  refine wpAny_bind (wpAny_standAt (wpAny_bind ?_))
  show wpAny _ X.A (do let _ ← comprehension (.DictComp kx vx [⟨tg, it, ifs, 0⟩] sc p) sc X.env (firstIterPos [⟨tg, it, ifs, 0⟩] p) newDict false (eval it X.env) (some (assign (.Name n q) X.env))) _ _ s
  refine wpAny_bind (thn (dc_core (Qf := fun _ s' => SP X pins D .next s') calm nd I hi ok r1 r2 r3 r4 plain wish fun L C s1 ns H1 I1 got hns fr => ?_) fun _ s1 z => wpAny_pure (wpAny_pure z))
  show wpAny _ _ (assign (.Name n q) X.env (.ref L)) _ _ _
  refine wpAny_assign_Name (store_ok2 (v := V.ref L) I1 nd hn (.inl isl) rfl (fun s2 I2 ⟨c, keep, way⟩ => ?_) (.inr isl))
  obtain ⟨e0, e1, e2, e3, e4, e5⟩ := fr
  have far : C ≠ c := by
    rcases way with z | z
    · rw [z]
      exact e1
    · exact fun e => e4 n c z e.symm
  refine ⟨ns, hns.sameBut keep far, fun h3 keep3 => ?_⟩
  exact ⟨_, H1, I2.turned (t' := s2.toks) (fun b o hb e => (keep3.2 b hb).trans e) e0 e1 e3 e4 e5, got⟩
/-- a list or a tuple, walked -/
def iSeqA (K : PySem.W.Frag) (tl : TE) : TI := fun σ H R => tl σ H fun v H1 => ∃ a, v = .ref a ∧ ((∃ xs, SqL K H1 a xs ∧ R (Itl K a) H1) ∨ (∃ xs, SqT K H1 a xs ∧ R (Itt K a) H1))
theorem pi_seqA {X : Cx} {tg l : Expr} {tl : TE} (hl : PE X l tl) : PI X tg l (iSeqA X.K tl) := by
  refine ⟨fun pins s σ H R I h => thn (hl.run pins s σ H _ I h) fun v u res => ?_⟩
  obtain ⟨x, G, J, rx, a, ex, way⟩ := res
  subst ex
  cases rx
  have new : ∀ c ∈ [u.heap.objs.size], FpOk X pins G c := fun c hc => by
    obtain rfl : c = u.heap.objs.size := by simpa using hc
    exact J.fpOk (Nat.le_refl _) (J.hok.fresh (Nat.le_refl _))
  rcases way with ⟨xs, hq, q⟩ | ⟨xs, hq, q⟩
  · obtain ⟨its, rv, p, _⟩ := J.list hq
    refine wpAny_pyIter_list p.isList ⟨u.heap.objs.size, [u.heap.objs.size], _, _, G, rfl, ?_, turn_list a _, ⟨_, Heap.get?_push_size _ rfl, rfl, rfl⟩, new, q⟩
    exact J.kept (t' := u.toks) fun c r z => Heap.get?_push_of_some _ z
  · obtain ⟨its, rv, p, _⟩ := J.tuple hq
    refine wpAny_pyIter_tuple (show u.heap.IsTuple a its.toArray from p) ⟨u.heap.objs.size, [u.heap.objs.size], _, _, G, rfl, ?_, turn_tuple a _, ⟨_, Heap.get?_push_size _ rfl, rfl, rfl⟩, new, q⟩
    exact J.kept (t' := u.toks) fun c r z => Heap.get?_push_of_some _ z
/-- a list or a tuple of ints -/
def SeqI (K : PySem.W.Frag) (H : Hp) (a : Addr) (ns : List Int) : Prop := SqL K H a (ns.map V.int) ∨ SqT K H a (ns.map V.int)
theorem SeqI.same {K : PySem.W.Frag} {H H' : Hp} {a : Addr} {ns : List Int} (h : SeqI K H a ns) (s : Same H H') : SeqI K H' a ns := h.imp (s.seq ·) (fun h => (Fz.of_same s).sqT h)
theorem take_int {ns : List Int} {i : Nat} {x : V} (h : (ns.map V.int)[i]? = some x) : ∃ n, x = .int n ∧ ns.take (i + 1) = ns.take i ++ [n] := by
  obtain ⟨n, hn, rfl⟩ := map_int_get h
  exact ⟨n, rfl, take_snoc hn⟩
/-- {n: True for n in a} -/
theorem dset {K : PySem.W.Frag} {a : Addr} {ns : List Int} {te : TE} {sl : Nat} {σ : L2.St} {H : Hp} {Q : VK} (hte : ∀ R : VK, R (.ref a) H → te σ H R) (hl : sl < σ.length) (hS : SeqI K H a ns) (hn : ns.length ≤ 1000)
    (k : ∀ D H', H D = none → Same H H' → SetI H' D ns → Q (.ref D) H') : tDc (iSeqA K te) (gName sl) tYes (tVar sl) (tC (.bl true)) [sl] σ H Q := by
  have turn : ∀ (D : Addr), H D = none → ∀ j x Hc H', j < (ns.map V.int).length → (SetI Hc D (ns.take j) ∧ Same H Hc) → YAt (ns.map V.int) j Hc x H' → gName sl x (wipe σ [sl]) H' fun σ1 H1 => wipe σ1 [sl] = wipe σ [sl] ∧ tYes σ1 H1 fun c H2 =>
      if c = true then tVar sl σ1 H2 fun y H3 => tC (.bl true) σ1 H3 fun z H4 => ∃ ks k, y = kV k ∧ H4 D = some (.dK ks) ∧ ks.length < sizeLine ∧ (SetI (upd H4 D (.dK (putK ks k z))) D (ns.take (j + 1)) ∧ Same H (upd H4 D (.dK (putK ks k z)))) else (SetI H2 D (ns.take (j + 1)) ∧ Same H H2) := by
    intro D hD j x Hc H' hj hR hy
    obtain ⟨rfl, hx⟩ := hy
    obtain ⟨n, rfl, tk⟩ := take_int hx
    obtain ⟨⟨kvs, hk, kk⟩, sc⟩ := hR
    refine ⟨by simp [wipe, List.set_set], ?_⟩
    dsimp only [tYes]
    rw [if_pos rfl]
    refine ⟨.int n, by simp [wipe, List.getElem?_set, hl], kvs, .inl n, rfl, hk, ?_, ?_, ?_⟩
    · have := kk.2
      rw [List.length_take] at this
      exact szl (by omega)
    · rw [tk]
      exact ⟨_, upd_same, kk.snoc n _⟩
    · exact same_lst sc hD
  refine hte _ ⟨a, rfl, ?_⟩
  rcases hS with hS | hS
  · refine .inl ⟨_, hS, fun D hD => dc_it walk_list (fun i Hc => SetI Hc D (ns.take i) ∧ Same H Hc) ⟨⟨[], upd_same, KeysI.nil⟩, same_new hD⟩ (fun i Hc _ hR => hR.2.seq hS) (turn D hD) (fun Hc hR => ?_)⟩
    rw [List.length_map, List.take_length] at hR
    exact k D Hc hD hR.2 hR.1
  · refine .inr ⟨_, hS, fun D hD => dc_it walk_tup (fun i Hc => SetI Hc D (ns.take i) ∧ Same H Hc) ⟨⟨[], upd_same, KeysI.nil⟩, same_new hD⟩ (fun i Hc _ hR => (Fz.of_same hR.2).sqT hS) (turn D hD) (fun Hc hR => ?_)⟩
    rw [List.length_map, List.take_length] at hR
    exact k D Hc hD hR.2 hR.1
theorem asg_go {te : TE} {g : V → L2.St → Hp → (L2.St → Hp → Prop) → Prop} {rest : TS} {D : Ends} {σ : L2.St} {H : Hp} (h : te σ H (fun x H1 => g x σ H1 (fun σ2 H2 => rest D σ2 H2))) : tSeq (tAsg te g) rest D σ H := h
/-- [e for n in a], the e of a bool each, nothing written -/
theorem lmap {K : PySem.W.Frag} {a : Addr} {ns : List Int} {te el : TE} {sl : Nat} {σ : L2.St} {H : Hp} {Q : VK} (f : Int → Bool) (hte : ∀ R : VK, R (.ref a) H → te σ H R) (hS : SeqI K H a ns) (hn : ns.length ≤ 1000)
    (helt : ∀ n Hc (R : VK), n ∈ ns → Same H Hc → R (.bl (f n)) Hc → el ((wipe σ [sl]).set sl (some (.int n))) Hc R)
    (k : ∀ D H', H D = none → Same H H' → H' D = some (.lst ((ns.map f).map V.bl)) → Q (.ref D) H') : tLc (iSeqA K te) (gName sl) tYes el [sl] σ H Q := by
  have turn : ∀ (D : Addr), H D = none → ∀ j x Hc H', j < (ns.map V.int).length → (Hc D = some (.lst (((ns.take j).map f).map V.bl)) ∧ Same H Hc) → YAt (ns.map V.int) j Hc x H' → gName sl x (wipe σ [sl]) H' fun σ1 H1 => wipe σ1 [sl] = wipe σ [sl] ∧ tYes σ1 H1 fun c H2 =>
      if c = true then el σ1 H2 fun y H3 => ∃ acc, H3 D = some (.lst acc) ∧ acc.length < sizeLine ∧ (upd H3 D (.lst (acc ++ [y])) D = some (.lst (((ns.take (j + 1)).map f).map V.bl)) ∧ Same H (upd H3 D (.lst (acc ++ [y])))) else (H2 D = some (.lst (((ns.take (j + 1)).map f).map V.bl)) ∧ Same H H2) := by
    intro D hD j x Hc H' hj hR hy
    obtain ⟨rfl, hx⟩ := hy
    obtain ⟨n, rfl, tk⟩ := take_int hx
    obtain ⟨hk, sc⟩ := hR
    refine ⟨by simp [wipe, List.set_set], ?_⟩
    dsimp only [tYes]
    rw [if_pos rfl]
    refine helt n _ _ (List.mem_of_mem_take (i := j + 1) (by rw [tk]; simp)) sc ⟨_, hk, ?_, ?_, ?_⟩
    · rw [List.length_map, List.length_map, List.length_take]
      exact szl (by omega)
    · rw [tk, upd_same, List.map_append, List.map_append]
      rfl
    · exact same_lst sc hD
  refine hte _ ⟨a, rfl, ?_⟩
  rcases hS with hS | hS
  · refine .inl ⟨_, hS, fun D hD => lc_it walk_list (fun i Hc => Hc D = some (.lst (((ns.take i).map f).map V.bl)) ∧ Same H Hc) ⟨upd_same, same_new hD⟩ (fun i Hc _ hR => hR.2.seq hS) (turn D hD) (fun Hc hR => ?_)⟩
    rw [List.length_map, List.take_length] at hR
    exact k D Hc hD hR.2 hR.1
  · refine .inr ⟨_, hS, fun D hD => lc_it walk_tup (fun i Hc => Hc D = some (.lst (((ns.take i).map f).map V.bl)) ∧ Same H Hc) ⟨upd_same, same_new hD⟩ (fun i Hc _ hR => (Fz.of_same hR.2).sqT hS) (turn D hD) (fun Hc hR => ?_)⟩
    rw [List.length_map, List.take_length] at hR
    exact k D Hc hD hR.2 hR.1
theorem b_go {r : List V → Hp → VK → Prop} {te : TE} {σ : L2.St} {H : Hp} {Q : Bool → Hp → Prop} (h : te σ H (fun x H1 => r [x] H1 (fun z H2 => ∃ c, z = .bl c ∧ Q c H2))) : tB (tCB r (tCons te tNil)) σ H Q := h
theorem all_id {ns : List Int} {f : Int → Bool} : (ns.map f).all id = ns.all f := by simp [List.all_map]
/-- a list == [] -/
def rEqNil (K : PySem.W.Frag) : R2 := fun x y H Q => ∃ l b xs, x = .ref l ∧ y = .ref b ∧ SqL K H l xs ∧ SqL K H b [] ∧ Q (.bl xs.isEmpty) H
theorem op_eqNil {X : Cx} (hu : X.A.units + 1 < cLine) : OpR X (compareOp .Eq) (rEqNil X.K) := by
  intro pins s σ H x y v u Q I rx ry h
  obtain ⟨l, b, xs, rfl, rfl, h1, h2, q⟩ := h
  cases (show v = Value.ref l from rx)
  cases (show u = Value.ref b from ry)
  obtain ⟨its, rv, p1, _⟩ := I.list h1
  obtain ⟨its2, rv2, p2, _⟩ := I.list h2
  cases rv2
  have hu0 : X.A.units < cLine := by omega
  show wpAny _ _ (richCompare .Eq (.ref l) (.ref b)) _ _ _
  cases rv with
  | nil => exact SeqAt.RcAt.lists (e := fun _ => true) p1.isList p2.isList rfl hu0 (fun j h1 h2 => absurd h1 (by simp)) _ _ _ _ ⟨.bl _, H, I, rfl, q⟩
  | cons r t => exact SeqAt.RcAt.lists_lengths p1.isList p2.isList (by simp) hu0 _ _ _ _ ⟨.bl _, H, I, rfl, q⟩
/-- [a draw for _ in range(a draw)] -/
theorem ldraw {b : Addr} {targ : TA} {el : TE} {sl : Nat} {σ : L2.St} {H : Hp} {Q : VK} {lo hi : Int} (harg : ∀ R : List V → Hp → Prop, (∀ m H1, 0 ≤ m → m ≤ 100 → Box H1 b → But b H H1 → R [.int m] H1) → targ σ H R)
    (helt : ∀ x Hc (R : VK), Box Hc b → (∀ n H1, lo ≤ n → n < hi → Box H1 b → But b Hc H1 → R (.int n) H1) → el ((wipe σ [sl]).set sl (some x)) Hc R)
    (k : ∀ D (ns : List Int) H', H D = none → D ≠ b → H' D = some (.lst (ns.map V.int)) → ns.length ≤ 100 → (∀ n ∈ ns, lo ≤ n ∧ n < hi) → Box H' b → But b H H' → Q (.ref D) H') : tLc (iRng1 targ) (gName sl) tYes el [sl] σ H Q := by
  refine harg _ fun m H1 m0 m1 B1 k1 => ⟨m, rfl, by omega, by omega, fun D hD => ?_⟩
  have neD : D ≠ b := B1.ne_none hD
  refine lc_range (fun i Hc => ∃ ns : List Int, Hc D = some (.lst (ns.map V.int)) ∧ ns.length = i ∧ (∀ n ∈ ns, lo ≤ n ∧ n < hi) ∧ Box Hc b ∧ But b H1 Hc) ⟨[], upd_same, rfl, (fun n h => nomatch h), B1.same (same_new hD), But.of_same (same_new hD)⟩ (fun i Hc hi hP => ?_) (fun Hc hP => ?_)
  · obtain ⟨ns, hDc, hl, hns, Bc, kc⟩ := hP
    refine ⟨by simp [wipe, List.set_set], ?_⟩
    dsimp only [tYes]
    rw [if_pos rfl]
    refine helt _ _ _ Bc fun n H2 n0 n1 B2 k2 => ⟨_, k2 _ _ neD hDc, ?_, ns ++ [n], ?_, ?_, ?_, box_ne B2 neD, but_new (kc.trans k2) hD⟩
    · rw [List.length_map]
      exact szl (by omega)
    · rw [upd_same, List.map_append]
      rfl
    · rw [List.length_append, hl]
      rfl
    · intro x hx
      rcases List.mem_append.mp hx with h | h
      · exact hns x h
      · rw [List.mem_singleton] at h
        subst h
        exact ⟨n0, n1⟩
  · obtain ⟨ns, hDc, hl, hns, Bc, kc⟩ := hP
    exact k D ns Hc (k1.free neD hD) neD hDc (by omega) hns Bc (k1.trans kc)
theorem if_go {tt : TT} {ta tb : TE} {σ : L2.St} {H : Hp} {Q : VK} (h : tt σ H fun c H1 => if c = true then ta σ H1 Q else tb σ H1 Q) : tIf tt ta tb σ H Q := h
end Rs
namespace K30
open PySem PySem.Spec PyProof.Rows L2 Rs
local macro_rules | `(tactic| walk_at "om") => `(tactic| first | omega | (dsimp only; omega))
local macro_rules | `(tactic| walk_at "side") => `(tactic| first | omega | (dsimp only; omega) | decide | (unfold CMul; omega) | (unfold CDiv; omega) | (unfold CPow; omega) | exact wide_div (b := 64) (by omega) (by omega) (by decide) (by decide))
local macro_rules | `(tactic| walk_at "hp") => `(tactic| first | assumption | exact upd_same)
local macro_rules | `(tactic| walk_at "sq") => `(tactic| first | assumption | exact SqL.of (by assumption) | exact SqL.of upd_same)
local macro_rules | `(tactic| walk_at "st") => `(tactic| first
  | refine ⟨_, rfl, ?_⟩
  | (refine ⟨_, _, rfl, rfl, And.intro ?side ?_⟩; (case side => walk_at "side"))
  | refine ⟨_, _, rfl, rfl, ?_⟩
  | (refine' ⟨_, _, _, _, rfl, rfl, SqL.of ?hp, ?atx, ?_⟩; (case hp => walk_at "hp"); (case atx => exact rfl))
  | (refine' ⟨_, _, _, _, rfl, rfl, ?hp, ?atx, ?_⟩; (case hp => walk_at "hp"); (case atx => exact rfl))
  | (refine' ⟨_, _, rfl, Or.inl ?sq, ?_⟩; (case sq => walk_at "sq"))
  | refine Or.inl ⟨_, rfl, ?_⟩
  | refine Or.inr ⟨_, rfl, ?_⟩)
local macro_rules | `(tactic| walk_at "evd") => `(tactic| first
  | exact evd_int
  | exact evd_str
  | exact evd_non
  | exact evd_bl
  | exact evd_nil
  | (refine evd_cons ?_ (fun _ => ?_) <;> walk_at "evd")
  | (refine evd_tup ?_ (Nat.le_of_ble_eq_true rfl); walk_at "evd"))

def topS (i : Nat) : Stmt := PySem.Challenge.pw_ringsums_k30_calendars_refused.main.body.getD i (.Pass ⟨0, 0, 0, 0⟩)
abbrev s_InvalidForm___init__ : Stmt := inClass (topS 4) 0
theorem sc_InvalidForm___init__ : FnScope ["self", "word"] ["self", "word"] (defScope s_InvalidForm___init__) := ⟨rfl, rfl, rfl, by decide +kernel, rfl, by decide +kernel, by decide +kernel⟩
abbrev s_InvalidCalendar___init__ : Stmt := inClass (topS 5) 0
theorem sc_InvalidCalendar___init__ : FnScope ["self", "word"] ["self", "word"] (defScope s_InvalidCalendar___init__) := ⟨rfl, rfl, rfl, by decide +kernel, rfl, by decide +kernel, by decide +kernel⟩
abbrev s_Calendar___init__ : Stmt := inClass (topS 14) 0
theorem sc_Calendar___init__ : FnScope ["self", "few", "start", "period", "rests"] ["self", "few", "start", "period", "rests"] (defScope s_Calendar___init__) := ⟨rfl, rfl, rfl, by decide +kernel, rfl, by decide +kernel, by decide +kernel⟩
abbrev s_is_whole : Stmt := topS 7
theorem sc_is_whole : FnScope ["value"] ["value"] (defScope s_is_whole) := ⟨rfl, rfl, rfl, by decide +kernel, rfl, by decide +kernel, by decide +kernel⟩
abbrev s_is_sequence : Stmt := topS 8
theorem sc_is_sequence : FnScope ["value"] ["value"] (defScope s_is_sequence) := ⟨rfl, rfl, rfl, by decide +kernel, rfl, by decide +kernel, by decide +kernel⟩
abbrev s__is_from_1 : Stmt := topS 15
theorem sc__is_from_1 : FnScope ["value"] ["value"] (defScope s__is_from_1) := ⟨rfl, rfl, rfl, by decide +kernel, rfl, by decide +kernel, by decide +kernel⟩
abbrev s__are_between : Stmt := topS 16
theorem sc__are_between : FnScope ["values", "low", "end", "value"] ["values", "low", "end"] (defScope s__are_between) := ⟨rfl, rfl, rfl, by decide +kernel, rfl, by decide +kernel, by decide +kernel⟩
abbrev s__ascending : Stmt := topS 17
theorem sc__ascending : FnScope ["values", "low", "end", "wanted", "value", "n"] ["values", "low", "end"] (defScope s__ascending) := ⟨rfl, rfl, rfl, by decide +kernel, rfl, by decide +kernel, by decide +kernel⟩
abbrev s__least_period : Stmt := topS 18
theorem sc__least_period : FnScope ["period", "rests", "wanted", "rest", "shorter"] ["period", "rests"] (defScope s__least_period) := ⟨rfl, rfl, rfl, by decide +kernel, rfl, by decide +kernel, by decide +kernel⟩
abbrev s__least_start : Stmt := topS 19
theorem sc__least_start : FnScope ["few", "start", "period", "rests", "early", "n", "late", "rest", "earlier"] ["few", "start", "period", "rests"] (defScope s__least_start) := ⟨rfl, rfl, rfl, by decide +kernel, rfl, by decide +kernel, by decide +kernel⟩
abbrev s__law_box : Stmt := topS 26
theorem sc__law_box : FnScope ["_law_script", "_law_k", "_law_cell", "_law_seed", "_law_wide"] ["_law_script", "_law_k"] (defScope s__law_box) := ⟨rfl, rfl, rfl, by decide +kernel, rfl, by decide +kernel, by decide +kernel⟩
abbrev s__law_take : Stmt := topS 27
theorem sc__law_take : FnScope ["_law_box_here", "_law_many", "_law_digit", "_law_near"] ["_law_box_here", "_law_many"] (defScope s__law_take) := ⟨rfl, rfl, rfl, by decide +kernel, rfl, by decide +kernel, by decide +kernel⟩
abbrev s__law_pick : Stmt := topS 28
theorem sc__law_pick : FnScope ["_law_box_here", "_law_some"] ["_law_box_here", "_law_some"] (defScope s__law_pick) := ⟨rfl, rfl, rfl, by decide +kernel, rfl, by decide +kernel, by decide +kernel⟩
abbrev s__law_raw : Stmt := topS 29
theorem sc__law_raw : FnScope ["_law_box_here", "_law_far", "_law_wide", "_law_start", "_law_period", "_law_few", "_law_turn", "_law_rests"] ["_law_box_here", "_law_far", "_law_wide"] (defScope s__law_raw) := ⟨rfl, rfl, rfl, by decide +kernel, rfl, by decide +kernel, by decide +kernel⟩
abbrev s__law_any : Stmt := topS 30
theorem sc__law_any : FnScope ["_law_box_here", "_law_deep", "_law_form", "_law_some", "_law_k", "_law_words", "_law_plain"] ["_law_box_here", "_law_deep"] (defScope s__law_any) := ⟨rfl, rfl, rfl, by decide +kernel, rfl, by decide +kernel, by decide +kernel⟩
abbrev s__law_is_whole : Stmt := topS 31
theorem sc__law_is_whole : FnScope ["_law_value", "_law_low"] ["_law_value", "_law_low"] (defScope s__law_is_whole) := ⟨rfl, rfl, rfl, by decide +kernel, rfl, by decide +kernel, by decide +kernel⟩
abbrev s__law_are_between : Stmt := topS 32
theorem sc__law_are_between : FnScope ["_law_value", "_law_low", "_law_high", "_law_one"] ["_law_value", "_law_low", "_law_high"] (defScope s__law_are_between) := ⟨rfl, rfl, rfl, by decide +kernel, rfl, by decide +kernel, by decide +kernel⟩
abbrev s__law_due : Stmt := topS 33
theorem sc__law_due : FnScope ["_law_told"] ["_law_told"] (defScope s__law_due) := ⟨rfl, rfl, rfl, by decide +kernel, rfl, by decide +kernel, by decide +kernel⟩
abbrev s__law_refused : Stmt := topS 34
theorem sc__law_refused : FnScope ["_law_told", "_law_found", "e"] ["_law_told"] (defScope s__law_refused) := ⟨rfl, rfl, rfl, by decide +kernel, rfl, by decide +kernel, by decide +kernel⟩
abbrev s_law : Stmt := topS 35
theorem sc_law : FnScope ["_law_script", "_law_k", "_law_box_here", "_law_turn", "_law_told", "_law_more", "_law_spot", "_law_edge", "_law_odd", "_law_value"] ["_law_script"] (defScope s_law) := ⟨rfl, rfl, rfl, by decide +kernel, rfl, by decide +kernel, by decide +kernel⟩
/-- what the top has written -/
structure Txt (K : PySem.W.Frag) (mg : Str → Option Value) where
  c_RingError : Addr
  m_RingError : mg "RingError" = some (.ref c_RingError)
  c_InvalidForm : Addr
  m_InvalidForm : mg "InvalidForm" = some (.ref c_InvalidForm)
  a_InvalidForm___init__ : Addr
  d_InvalidForm___init__ : FuncData
  F_InvalidForm___init__ : Fun K "__init__" "InvalidForm.__init__" s_InvalidForm___init__ a_InvalidForm___init__ d_InvalidForm___init__
  b_InvalidForm___init__ : Binds K d_InvalidForm___init__ ["self", "word"] []
  k_InvalidForm___init__ : PySem.W.keepIn K (.ref a_InvalidForm___init__) = true
  x_InvalidForm : OexC K c_InvalidForm
  X_InvalidForm : ExX K c_InvalidForm
  f_InvalidForm : XfC K c_InvalidForm
  n_InvalidForm : PySem.W.findIn K (.ref c_InvalidForm) "word" = some none
  i_InvalidForm : PySem.W.findIn K (.ref c_InvalidForm) "__init__" = some (some (.ref a_InvalidForm___init__))
  t_InvalidForm : PySem.W.typeIn K (.ref a_InvalidForm___init__) = some (.type "function")
  e_InvalidForm : PySem.W.exmOne K (.ref c_InvalidForm) (.ref c_InvalidForm) = some true
  c_InvalidCalendar : Addr
  m_InvalidCalendar : mg "InvalidCalendar" = some (.ref c_InvalidCalendar)
  a_InvalidCalendar___init__ : Addr
  d_InvalidCalendar___init__ : FuncData
  F_InvalidCalendar___init__ : Fun K "__init__" "InvalidCalendar.__init__" s_InvalidCalendar___init__ a_InvalidCalendar___init__ d_InvalidCalendar___init__
  b_InvalidCalendar___init__ : Binds K d_InvalidCalendar___init__ ["self", "word"] []
  k_InvalidCalendar___init__ : PySem.W.keepIn K (.ref a_InvalidCalendar___init__) = true
  x_InvalidCalendar : OexC K c_InvalidCalendar
  X_InvalidCalendar : ExX K c_InvalidCalendar
  f_InvalidCalendar : XfC K c_InvalidCalendar
  n_InvalidCalendar : PySem.W.findIn K (.ref c_InvalidCalendar) "word" = some none
  i_InvalidCalendar : PySem.W.findIn K (.ref c_InvalidCalendar) "__init__" = some (some (.ref a_InvalidCalendar___init__))
  t_InvalidCalendar : PySem.W.typeIn K (.ref a_InvalidCalendar___init__) = some (.type "function")
  e_InvalidCalendar : PySem.W.exmOne K (.ref c_InvalidCalendar) (.ref c_InvalidCalendar) = some true
  c_Calendar : Addr
  m_Calendar : mg "Calendar" = some (.ref c_Calendar)
  C_Calendar : Cls K c_Calendar
  n_Calendar_period : NoAttr K c_Calendar "period"
  n_Calendar_rests : NoAttr K c_Calendar "rests"
  n_Calendar_start : NoAttr K c_Calendar "start"
  n_Calendar_few : NoAttr K c_Calendar "few"
  e_Calendar___init___0 : Addr
  e_Calendar___init___3 : Addr
  a_Calendar___init__ : Addr
  d_Calendar___init__ : FuncData
  F_Calendar___init__ : FunD K "__init__" "Calendar.__init__" (defArgs s_Calendar___init__) (defBody s_Calendar___init__) (defScope s_Calendar___init__) [(.ref e_Calendar___init___0), (.int 1), (.int 1), (.ref e_Calendar___init___3)] [] a_Calendar___init__ d_Calendar___init__
  b_Calendar___init__ : Binds K d_Calendar___init__ ["self", "few", "start", "period", "rests"] []
  k_Calendar___init__ : PySem.W.keepIn K (.ref a_Calendar___init__) = true
  M_Calendar : Mk K c_Calendar a_Calendar___init__
  kit_InvalidCalendar_RingError : PySem.W.kitOne K (.ref c_InvalidCalendar) (.ref c_RingError) = some true
  kit_InvalidCalendar_InvalidForm : PySem.W.kitOne K (.ref c_InvalidCalendar) (.ref c_InvalidForm) = some false
  a_is_whole : Addr
  d_is_whole : FuncData
  F_is_whole : Fun K "is_whole" "is_whole" s_is_whole a_is_whole d_is_whole
  b_is_whole : Binds K d_is_whole ["value"] []
  k_is_whole : PySem.W.keepIn K (.ref a_is_whole) = true
  m_is_whole : mg "is_whole" = some (.ref a_is_whole)
  a_is_sequence : Addr
  d_is_sequence : FuncData
  F_is_sequence : Fun K "is_sequence" "is_sequence" s_is_sequence a_is_sequence d_is_sequence
  b_is_sequence : Binds K d_is_sequence ["value"] []
  k_is_sequence : PySem.W.keepIn K (.ref a_is_sequence) = true
  m_is_sequence : mg "is_sequence" = some (.ref a_is_sequence)
  a__is_from_1 : Addr
  d__is_from_1 : FuncData
  F__is_from_1 : Fun K "_is_from_1" "_is_from_1" s__is_from_1 a__is_from_1 d__is_from_1
  b__is_from_1 : Binds K d__is_from_1 ["value"] []
  k__is_from_1 : PySem.W.keepIn K (.ref a__is_from_1) = true
  m__is_from_1 : mg "_is_from_1" = some (.ref a__is_from_1)
  a__are_between : Addr
  d__are_between : FuncData
  F__are_between : Fun K "_are_between" "_are_between" s__are_between a__are_between d__are_between
  b__are_between : Binds K d__are_between ["values", "low", "end"] []
  k__are_between : PySem.W.keepIn K (.ref a__are_between) = true
  m__are_between : mg "_are_between" = some (.ref a__are_between)
  a__ascending : Addr
  d__ascending : FuncData
  F__ascending : Fun K "_ascending" "_ascending" s__ascending a__ascending d__ascending
  b__ascending : Binds K d__ascending ["values", "low", "end"] []
  k__ascending : PySem.W.keepIn K (.ref a__ascending) = true
  m__ascending : mg "_ascending" = some (.ref a__ascending)
  a__least_period : Addr
  d__least_period : FuncData
  F__least_period : Fun K "_least_period" "_least_period" s__least_period a__least_period d__least_period
  b__least_period : Binds K d__least_period ["period", "rests"] []
  k__least_period : PySem.W.keepIn K (.ref a__least_period) = true
  m__least_period : mg "_least_period" = some (.ref a__least_period)
  a__least_start : Addr
  d__least_start : FuncData
  F__least_start : Fun K "_least_start" "_least_start" s__least_start a__least_start d__least_start
  b__least_start : Binds K d__least_start ["few", "start", "period", "rests"] []
  k__least_start : PySem.W.keepIn K (.ref a__least_start) = true
  m__least_start : mg "_least_start" = some (.ref a__least_start)
  a__law_box : Addr
  d__law_box : FuncData
  F__law_box : Fun K "_law_box" "_law_box" s__law_box a__law_box d__law_box
  b__law_box : Binds K d__law_box ["_law_script", "_law_k"] []
  k__law_box : PySem.W.keepIn K (.ref a__law_box) = true
  m__law_box : mg "_law_box" = some (.ref a__law_box)
  a__law_take : Addr
  d__law_take : FuncData
  F__law_take : Fun K "_law_take" "_law_take" s__law_take a__law_take d__law_take
  b__law_take : Binds K d__law_take ["_law_box_here", "_law_many"] []
  k__law_take : PySem.W.keepIn K (.ref a__law_take) = true
  m__law_take : mg "_law_take" = some (.ref a__law_take)
  a__law_pick : Addr
  d__law_pick : FuncData
  F__law_pick : Fun K "_law_pick" "_law_pick" s__law_pick a__law_pick d__law_pick
  b__law_pick : Binds K d__law_pick ["_law_box_here", "_law_some"] []
  k__law_pick : PySem.W.keepIn K (.ref a__law_pick) = true
  m__law_pick : mg "_law_pick" = some (.ref a__law_pick)
  a__law_raw : Addr
  d__law_raw : FuncData
  F__law_raw : Fun K "_law_raw" "_law_raw" s__law_raw a__law_raw d__law_raw
  b__law_raw : Binds K d__law_raw ["_law_box_here", "_law_far", "_law_wide"] []
  k__law_raw : PySem.W.keepIn K (.ref a__law_raw) = true
  m__law_raw : mg "_law_raw" = some (.ref a__law_raw)
  a__law_any : Addr
  d__law_any : FuncData
  F__law_any : Fun K "_law_any" "_law_any" s__law_any a__law_any d__law_any
  b__law_any : Binds K d__law_any ["_law_box_here", "_law_deep"] []
  k__law_any : PySem.W.keepIn K (.ref a__law_any) = true
  m__law_any : mg "_law_any" = some (.ref a__law_any)
  a__law_is_whole : Addr
  d__law_is_whole : FuncData
  F__law_is_whole : Fun K "_law_is_whole" "_law_is_whole" s__law_is_whole a__law_is_whole d__law_is_whole
  b__law_is_whole : Binds K d__law_is_whole ["_law_value", "_law_low"] []
  k__law_is_whole : PySem.W.keepIn K (.ref a__law_is_whole) = true
  m__law_is_whole : mg "_law_is_whole" = some (.ref a__law_is_whole)
  a__law_are_between : Addr
  d__law_are_between : FuncData
  F__law_are_between : Fun K "_law_are_between" "_law_are_between" s__law_are_between a__law_are_between d__law_are_between
  b__law_are_between : Binds K d__law_are_between ["_law_value", "_law_low", "_law_high"] []
  k__law_are_between : PySem.W.keepIn K (.ref a__law_are_between) = true
  m__law_are_between : mg "_law_are_between" = some (.ref a__law_are_between)
  a__law_due : Addr
  d__law_due : FuncData
  F__law_due : Fun K "_law_due" "_law_due" s__law_due a__law_due d__law_due
  b__law_due : Binds K d__law_due ["_law_told"] []
  k__law_due : PySem.W.keepIn K (.ref a__law_due) = true
  m__law_due : mg "_law_due" = some (.ref a__law_due)
  a__law_refused : Addr
  d__law_refused : FuncData
  F__law_refused : Fun K "_law_refused" "_law_refused" s__law_refused a__law_refused d__law_refused
  b__law_refused : Binds K d__law_refused ["_law_told"] []
  k__law_refused : PySem.W.keepIn K (.ref a__law_refused) = true
  m__law_refused : mg "_law_refused" = some (.ref a__law_refused)
  a_law : Addr
  d_law : FuncData
  F_law : Fun K "law" "law" s_law a_law d_law
  b_law : Binds K d_law ["_law_script"] []
  k_law : PySem.W.keepIn K (.ref a_law) = true
  m_law : mg "law" = some (.ref a_law)
  z_abs : mg "abs" = none
  z_all : mg "all" = none
  z_bool : mg "bool" = none
  z_int : mg "int" = none
  z_isinstance : mg "isinstance" = none
  z_len : mg "len" = none
  z_list : mg "list" = none
  z_max : mg "max" = none
  z_min : mg "min" = none
  z_range : mg "range" = none
  z_repr : mg "repr" = none
  z_tuple : mg "tuple" = none
section
variable {P : Program} {w : World} {K : PySem.W.Frag} {mg : Str → Option Value} {base : Heap}
def spTake : Sp := fun vs H Q _ => ∃ (b : Addr) (m : Int), vs = [.ref b, .int m] ∧ Box H b ∧ 0 < m ∧ m < 2 ^ 40 ∧
  ∀ (r : Int) (H' : Hp), 0 ≤ r → r < m → Box H' b → But b H H' → Q (.int r) H'
theorem ok_take (T : Txt K mg) : FnOk P w K mg base CX0 1 T.a__law_take T.d__law_take ["_law_box_here", "_law_many"] spTake := by
  refine T.F__law_take.ok sc__law_take (fun vs H Q E h => ?_) (fun cdv A outer s H vs Q E hr h => ?_)
  · obtain ⟨b, m, rfl, _⟩ := h
    rfl
  · obtain ⟨b, m, rfl, ⟨x, y, z, hb, ⟨x0, y1, y2⟩⟩, m0, m1, k⟩ := h
    have nd := sc__law_take.nd
    refine ⟨_, (pss_cons (ps_if (pt_cmpR op_gt (pe_ix ix_list (pv 0) pe_int (fun _ _ => rfl)) pe_int (nomark _)) (pss_cons (ps_set (i := 2) nd rfl (Or.inl rfl) (pe_op op_mod (pe_callTy call_int1 (by rfl) T.z_int (by decide +kernel) (pa_cons (pe_ix ix_list (pv 0) pe_int (fun _ _ => rfl)) pa_nil)) (pv 1)))
    (pss_cons (ps_asg (pe_op op_fdivW (pe_ix ix_list (pv 0) pe_int (fun _ _ => rfl)) (pv 1)) (pg_sub (pv 0) pe_int set_list))
    (pss_one (ps_ret (pv 2))))) pss_nil)
    (pss_cons (ps_asg (pe_op op_add (pe_ix ix_list (pv 0) pe_int (fun _ _ => rfl)) pe_int) (pg_sub (pv 0) pe_int set_list))
    (pss_cons (ps_set (i := 3) nd rfl (Or.inl rfl) (pe_op op_mod (pe_callTy call_int1 (by rfl) T.z_int (by decide +kernel) (pa_cons (pe_op op_mul (pe_op op_add (pe_ix ix_list (pv 0) pe_int (fun _ _ => rfl)) (pe_op op_mul pe_int (pe_ix ix_list (pv 0) pe_int (fun _ _ => rfl)))) pe_int) pa_nil)) pe_int))
    (pss_cons (ps_asg (pe_op op_add (pe_op op_mod (pe_callTy call_int1 (by rfl) T.z_int (by decide +kernel) (pa_cons (pe_op op_add (pe_op op_mul (pv 3) pe_int) pe_int) pa_nil)) pe_int) pe_int) (pg_sub (pv 0) pe_int set_list))
    (pss_one (ps_ret (pe_op op_mod (pe_callTy call_int1 (by rfl) T.z_int (by decide +kernel) (pa_cons (pe_op op_fdiv (pe_op op_add (pe_op op_mul (pv 3) pe_int) (pe_ix ix_list (pv 0) pe_int (fun _ _ => rfl))) pe_int) pa_nil)) (pv 1)))))))), ?_⟩
    repeat walk_at "st"
    refine ifB (fun e => ?_) (fun e => ?_)
    · repeat walk_at "st"
      exact k _ _ (Int.emod_nonneg _ (by omega)) (Int.emod_lt_of_pos _ m0) ⟨x / m, y, z, upd_same, Int.ediv_nonneg x0 (by omega), y1, y2⟩ (But.refl _ _).upd
    · repeat walk_at "st"
      exact k _ _ (Int.emod_nonneg _ (by omega)) (Int.emod_lt_of_pos _ m0) ⟨_, _, _, upd_same, x0, by omega, by omega⟩ (((But.refl _ _).upd).upd)
local macro_rules | `(tactic| walk_at "boxtail") => `(tactic| (
  repeat walk_at "st"
  refine ifB (fun e9 => ?_) (fun e9 => ?_)))
/-- the box of a cell -/
def spBox (K : PySem.W.Frag) : Sp := fun vs H Q _ => ∃ (a : Addr) (ns : List Int) (i : Int), vs = [.ref a, .int i] ∧ SqL K H a (ns.map V.int) ∧ 0 ≤ i ∧ i < 1000 ∧
  ∀ (H' : Hp) (p : Addr), Same H H' → H p = none → Box H' p → Q (.ref p) H'
theorem ok_box (T : Txt K mg) : FnOk P w K mg base CX0 1 T.a__law_box T.d__law_box ["_law_script", "_law_k"] (spBox K) := by
  refine T.F__law_box.ok sc__law_box (fun vs H Q E h => ?_) (fun cdv A outer s H vs Q E hr h => ?_)
  · obtain ⟨a, ns, i, rfl, _⟩ := h
    rfl
  · obtain ⟨a, ns, i, rfl, hS, i0, i1, k⟩ := h
    have nd := sc__law_box.nd
    refine ⟨_, (pss_cons (ps_set (i := 2) nd rfl (Or.inl rfl) (pe_op op_add (pe_op op_mul pe_int (pv 1)) pe_int))
    (pss_cons (ps_if (pt_cmpR op_lt (pv 1) (pe_callB call_len_seq (by rfl) T.z_len (by decide +kernel) (pa_cons (pv 0) pa_nil)) (nomark _)) (pss_one (ps_set (i := 2) nd rfl (Or.inl rfl) (pe_callB call_abs (by rfl) T.z_abs (by decide +kernel) (pa_cons (pe_callTy call_int1 (by rfl) T.z_int (by decide +kernel) (pa_cons (pe_ix ix_list (pv 0) (pv 1) (fun _ _ => rfl)) pa_nil)) pa_nil)))) (pss_one (ps_if (pt_cmpR op_gt (pe_callB call_len_seq (by rfl) T.z_len (by decide +kernel) (pa_cons (pv 0) pa_nil)) pe_int (nomark _)) (pss_one (ps_set (i := 2) nd rfl (Or.inl rfl) (pe_op op_add (pv 2) (pe_op op_mul (pe_op op_mod (pe_callTy call_int1 (by rfl) T.z_int (by decide +kernel) (pa_cons (pe_ix ix_list (pv 0) (pe_op op_mod (pe_callTy call_int1 (by rfl) T.z_int (by decide +kernel) (pa_cons (pv 1) pa_nil)) (pe_callB call_len_seq (by rfl) T.z_len (by decide +kernel) (pa_cons (pv 0) pa_nil))) (fun _ _ => rfl)) pa_nil)) pe_int) pe_int)))) pss_nil)))
    (pss_cons (ps_set (i := 3) nd rfl (Or.inl rfl) (pe_op op_add (pe_op op_mod (pe_callTy call_int1 (by rfl) T.z_int (by decide +kernel) (pa_cons (pe_op op_add (pe_op op_add (pe_op op_mul (pe_op op_mod (pe_callTy call_int1 (by rfl) T.z_int (by decide +kernel) (pa_cons (pv 2) pa_nil)) pe_int) pe_int) (pe_op op_mul pe_int (pv 1))) pe_int) pa_nil)) pe_int) pe_int))
    (pss_cons (ps_set (i := 4) nd rfl (Or.inl rfl) (pe_ifExp (pt_cmpR op_ge (pv 2) (pe_op op_pow pe_int pe_int) (nomark _)) (pv 2) pe_int))
    (pss_one (ps_ret (pe_lst (pa_cons (pv 4) (pa_cons (pv 3) (pa_cons pe_int pa_nil)))))))))), ?_⟩
    repeat walk_at "st"
    refine ifB (fun e => ?_) (fun e => ?_)
    · have e := of_decide_eq_true e
      rw [List.length_map] at e
      obtain ⟨z, hz⟩ := ints_at i0 e
      refine ⟨_, rfl, _, rfl, _, _, _, _, rfl, rfl, hS, hz, ?_⟩
      have c0 := natAbs_abs (i := z)
      walk_at "boxtail"
      all_goals
        repeat walk_at "st"
        refine ⟨szL (Nat.le_of_ble_eq_true rfl), fun q hq => ?_⟩
        exact k _ _ (same_new (by assumption)) (by assumption) ⟨_, _, _, upd_same, by first | exact c0 | decide, by walk_at "om", by walk_at "om"⟩
    · repeat walk_at "st"
      refine ifB (fun e1 => ?_) (fun e1 => ?_)
      · have e1 := of_decide_eq_true e1
        repeat walk_at "st"
        rw [List.length_map] at e1
        obtain ⟨z, hz⟩ := ints_at (ns := ns) (k := i % ((ns.map V.int).length : Nat)) (Int.emod_nonneg _ (by rw [List.length_map]; omega)) (by rw [List.length_map]; exact Int.emod_lt_of_pos _ (by omega))
        refine ⟨_, _, _, _, rfl, rfl, hS, hz, ?_⟩
        walk_at "boxtail"
        all_goals
          repeat walk_at "st"
          refine ⟨szL (Nat.le_of_ble_eq_true rfl), fun q hq => ?_⟩
          exact k _ _ (same_new (by assumption)) (by assumption) ⟨_, _, _, upd_same, by walk_at "om", by walk_at "om", by walk_at "om"⟩
      · walk_at "boxtail"
        all_goals
          repeat walk_at "st"
          refine ⟨szL (Nat.le_of_ble_eq_true rfl), fun q hq => ?_⟩
          exact k _ _ (same_new (by assumption)) (by assumption) ⟨_, _, _, upd_same, by walk_at "om", by walk_at "om", by walk_at "om"⟩

/-- one of the items of a list -/
def spPick : Sp := fun vs H Q _ => ∃ (b L : Addr) (xs : List V), vs = [.ref b, .ref L] ∧ Box H b ∧ L ≠ b ∧ H L = some (.lst xs) ∧ 0 < xs.length ∧ xs.length < 1000 ∧
  ∀ (v : V) (H' : Hp), v ∈ xs → Box H' b → But b H H' → Q v H'
theorem ok_pick (T : Txt K mg) : FnOk P w K mg base CX0 2 T.a__law_pick T.d__law_pick ["_law_box_here", "_law_some"] spPick := by
  have G__law_take : FnOk P w K mg base CX0 1 T.a__law_take T.d__law_take ["_law_box_here", "_law_many"] spTake := ok_take T
  refine T.F__law_pick.ok sc__law_pick (fun vs H Q E h => ?_) (fun cdv A outer s H vs Q E hr h => ?_)
  · obtain ⟨b, L, xs, rfl, _⟩ := h
    rfl
  · obtain ⟨b, L, xs, rfl, hB, hne, hL, l0, l1, k⟩ := h
    have nd := sc__law_pick.nd
    refine ⟨_, (pss_one (ps_ret (pe_ix ix_list (pv 1) (pe_call G__law_take (hr.mono (by first | decide | omega)) (by rfl) T.m__law_take T.k__law_take T.b__law_take .nil pass0 (pa_cons (pv 0) (pa_cons (pe_callB call_len_seq (by rfl) T.z_len (by decide +kernel) (pa_cons (pv 1) pa_nil)) pa_nil))) (fun _ _ => rfl)))), ?_⟩
    repeat walk_at "st"
    refine ⟨b, _, rfl, hB, by omega, by omega, fun r H' r0 r1 B' k' => ?_⟩
    obtain ⟨v, hv, hz⟩ := mem_at r0 r1
    exact ⟨_, _, _, _, rfl, rfl, SqL.of (k' _ _ hne hL), hz, k v H' hv B' k'⟩

theorem ok_whole (T : Txt K mg) : FnOk P w K mg base CX0 1 T.a_is_whole T.d_is_whole ["value"] spWhole := by
  refine T.F_is_whole.ok sc_is_whole (fun vs H Q E h => ?_) (fun cdv A outer s H vs Q E hr h => ?_)
  · obtain ⟨b, v, rfl, _⟩ := h
    rfl
  · obtain ⟨b, v, rfl, hv, k⟩ := h
    have nd := sc_is_whole.nd
    refine ⟨_, (pss_one (ps_ret (pe_and (pe_callB call_isi (by rfl) T.z_isinstance (by decide +kernel) (pa_cons (pv 0) (pa_cons (pe_bltn (v := .ty "int") (u := .type "int") (by rfl) T.z_int (by decide +kernel) (by exact rfl)) pa_nil))) (pe_one (pe_not (pe_callB call_isi (by rfl) T.z_isinstance (by decide +kernel) (pa_cons (pv 0) (pa_cons (pe_bltn (v := .ty "bool") (u := .type "bool") (by rfl) T.z_bool (by decide +kernel) (by exact rfl)) pa_nil)))))))), ?_⟩
    obtain ⟨t, ty, ki, kb⟩ := hv.ty (K := K)
    refine ⟨_, rfl, _, _, _, _, _, rfl, .ty _, ty, kit_ty ki, _, rfl, ifB (fun e => ?_) (fun e => ?_)⟩
    · refine ⟨_, rfl, _, _, _, _, _, rfl, .ty _, ty, kit_ty kb, _, rfl, ?_⟩
      rw [isInt_bl e]
      exact k
    · show Q (.bl false) H
      rw [isInt_no e]
      exact k
theorem tyx_same {K : PySem.W.Frag} {H H' : Hp} {v : V} {t : Value} (s : Same H H') (h : TyX K H v t) : TyX K H' v t := by
  cases h with
  | base b =>
    cases b with
    | non => exact .base .non
    | bl x => exact .base (.bl x)
    | int x => exact .base (.int x)
    | str x => exact .base (.str x)
    | flt x => exact .base (.flt x)
    | lst e => exact .base (.lst (s _ _ e))
    | frz e => exact .base (.frz (s _ _ e))
    | tup e => exact .base (.tup (s _ _ e))
    | dK e => exact .base (.dK (s _ _ e))
    | dT e => exact .base (.dT (s _ _ e))
    | ins e c ha hn ht hm => exact .base (.ins (s _ _ e) c ha hn ht hm)
  | byt x => exact .byt x
  | set e => exact .set (s _ _ e)
  | kList e c => exact .kList e c
  | kTuple e c => exact .kTuple e c
  | kDict e c => exact .kDict e c
  | fTuple e => exact .fTuple (s _ _ e)
  | fDict e => exact .fDict (s _ _ e)
/-- whether a value is a list or a tuple -/
def spSeq (K : PySem.W.Frag) : Sp := fun vs H Q _ => ∃ (v : V) (t : Value) (r : Bool), vs = [v] ∧ TyX K H v t ∧ PySem.W.kitAny K t [.type "list", .type "tuple"] = some r ∧ ∀ H', Same H H' → Q (.bl r) H'
theorem ok_seq (T : Txt K mg) : FnOk P w K mg base CX0 1 T.a_is_sequence T.d_is_sequence ["value"] (spSeq K) := by
  refine T.F_is_sequence.ok sc_is_sequence (fun vs H Q E h => ?_) (fun cdv A outer s H vs Q E hr h => ?_)
  · obtain ⟨v, t, r, rfl, _⟩ := h
    rfl
  · obtain ⟨v, t, r, rfl, ty, kt, k⟩ := h
    have nd := sc_is_sequence.nd
    refine ⟨_, (pss_one (ps_ret (pe_callB call_isiT (by rfl) T.z_isinstance (by decide +kernel) (pa_cons (pv 0) (pa_cons (pe_tup (pa_cons (pe_bltn (v := .ty "list") (u := .type "list") (by rfl) T.z_list (by decide +kernel) (by exact rfl)) (pa_cons (pe_bltn (v := .ty "tuple") (u := .type "tuple") (by rfl) T.z_tuple (by decide +kernel) (by exact rfl)) pa_nil))) pa_nil))))), ?_⟩
    refine ⟨_, rfl, szL (Nat.le_of_ble_eq_true rfl), fun p np => ?_⟩
    have z : TyX K (upd H p (.tup [.ty "list", .ty "tuple"])) v t := tyx_same (same_new np) ty
    exact ⟨v, p, _, t, _, r, rfl, upd_same, .cons (.ty _) (.cons (.ty _) .nil), z, kt, k _ (same_new np)⟩
theorem kit_seq_list {K : PySem.W.Frag} : PySem.W.kitAny K (.type "list") [.type "list", .type "tuple"] = some true := by
  unfold PySem.W.kitAny
  rw [show PySem.W.kitOne K (.type "list") (.type "list") = some true from by simp [PySem.W.kitOne]]
theorem kit_seq_tup {K : PySem.W.Frag} : PySem.W.kitAny K (.type "tuple") [.type "list", .type "tuple"] = some true := by
  unfold PySem.W.kitAny
  rw [show PySem.W.kitOne K (.type "tuple") (.type "list") = some false from kit_ty (by decide +kernel)]
  unfold PySem.W.kitAny
  rw [show PySem.W.kitOne K (.type "tuple") (.type "tuple") = some true from by simp [PySem.W.kitOne]]
theorem kit_seq_no {K : PySem.W.Frag} {T : String} (h1 : kitB T "list" = some false) (h2 : kitB T "tuple" = some false) : PySem.W.kitAny K (.type T) [.type "list", .type "tuple"] = some false := by
  unfold PySem.W.kitAny
  rw [kit_ty h1]
  unfold PySem.W.kitAny
  rw [kit_ty h2]
  rfl

theorem un1 {k : Nat} {A : Around} (r : Room k A) : A.units + 1 < cLine := by
  have := r.un
  omega
theorem sh_seq {b : Addr} {H : Hp} {v : V} (h : Sh b H v) : ∃ t, TyX K H v t ∧ PySem.W.kitAny K t [.type "list", .type "tuple"] = some (seqV H v).isSome := by
  cases v with
  | non => exact ⟨_, .base .non, kit_seq_no (by decide +kernel) (by decide +kernel)⟩
  | bl x => exact ⟨_, .base (.bl x), kit_seq_no (by decide +kernel) (by decide +kernel)⟩
  | int x => exact ⟨_, .base (.int x), kit_seq_no (by decide +kernel) (by decide +kernel)⟩
  | str x => exact ⟨_, .base (.str x), kit_seq_no (by decide +kernel) (by decide +kernel)⟩
  | ref a =>
    obtain ⟨ne, ⟨xs, e⟩ | ⟨xs, e⟩⟩ := h
    · exact ⟨_, .base (.lst e), by rw [seqV_lst e]; exact kit_seq_list⟩
    · exact ⟨_, .base (.tup e), by rw [seqV_tup e]; exact kit_seq_tup⟩
  | byt _ => exact h.elim
  | flt _ => exact h.elim
  | ty _ => exact h.elim
def from1 : V → Bool
  | .int i => decide (1 ≤ i)
  | _ => false
def spFrom1 : Sp := fun vs H Q _ => ∃ (b : Addr) (v : V), vs = [v] ∧ Sh b H v ∧ Q (.bl (from1 v)) H
theorem ok_from1 (T : Txt K mg) : FnOk P w K mg base CX0 2 T.a__is_from_1 T.d__is_from_1 ["value"] spFrom1 := by
  have G_is_whole : FnOk P w K mg base CX0 1 T.a_is_whole T.d_is_whole ["value"] spWhole := ok_whole T
  refine T.F__is_from_1.ok sc__is_from_1 (fun vs H Q E h => ?_) (fun cdv A outer s H vs Q E hr h => ?_)
  · obtain ⟨b, v, rfl, _⟩ := h
    rfl
  · obtain ⟨b, v, rfl, hv, k⟩ := h
    have nd := sc__is_from_1.nd
    refine ⟨_, (pss_one (ps_ret (pe_and (pe_call G_is_whole (hr.mono (by first | decide | omega)) (by rfl) T.m_is_whole T.k_is_whole T.b_is_whole .nil pass0 (pa_cons (pv 0) pa_nil)) (pe_one (pe_cmpR op_ge (pv 0) pe_int (nomark _)))))), ?_⟩
    refine ⟨_, rfl, b, v, rfl, hv, _, rfl, ?_⟩
    cases v with
    | int i => exact ifT rfl ⟨_, rfl, _, _, rfl, rfl, k⟩
    | non => exact ifF rfl k
    | bl _ => exact ifF rfl k
    | str _ => exact ifF rfl k
    | ref _ => exact ifF rfl k
    | byt _ => exact hv.elim
    | flt _ => exact hv.elim
    | ty _ => exact hv.elim

end
end K30
namespace K30
open PySem PySem.Spec PyProof.Rows L2 Rs
local macro_rules | `(tactic| walk_at "om") => `(tactic| first | omega | (dsimp only; omega))
local macro_rules | `(tactic| walk_at "side") => `(tactic| first | omega | (dsimp only; omega) | decide | (unfold CMul; omega) | (unfold CDiv; omega) | (unfold CPow; omega) | exact wide_div (b := 64) (by omega) (by omega) (by decide) (by decide))
local macro_rules | `(tactic| walk_at "hp") => `(tactic| first | assumption | exact upd_same)
local macro_rules | `(tactic| walk_at "sq") => `(tactic| first | assumption | exact SqL.of (by assumption) | exact SqL.of upd_same)
local macro_rules | `(tactic| walk_at "st") => `(tactic| first
  | refine ⟨_, rfl, ?_⟩
  | (refine ⟨_, _, rfl, rfl, And.intro ?side ?_⟩; (case side => walk_at "side"))
  | refine ⟨_, _, rfl, rfl, ?_⟩
  | (refine' ⟨_, _, _, _, rfl, rfl, SqL.of ?hp, ?atx, ?_⟩; (case hp => walk_at "hp"); (case atx => exact rfl))
  | (refine' ⟨_, _, _, _, rfl, rfl, ?hp, ?atx, ?_⟩; (case hp => walk_at "hp"); (case atx => exact rfl))
  | (refine' ⟨_, _, rfl, Or.inl ?sq, ?_⟩; (case sq => walk_at "sq"))
  | refine Or.inl ⟨_, rfl, ?_⟩
  | refine Or.inr ⟨_, rfl, ?_⟩)
local macro_rules | `(tactic| walk_at "evd") => `(tactic| first
  | exact evd_int
  | exact evd_str
  | exact evd_non
  | exact evd_bl
  | exact evd_nil
  | (refine evd_cons ?_ (fun _ => ?_) <;> walk_at "evd")
  | (refine evd_tup ?_ (Nat.le_of_ble_eq_true rfl); walk_at "evd"))

section
variable {P : Program} {w : World} {K : PySem.W.Frag} {mg : Str → Option Value} {base : Heap}
theorem all_map {xs : List V} {f : V → Bool} : (xs.map f).all id = xs.all f := by simp [List.all_map]
theorem inB_t {lo hi j : Int} (h : decide (lo ≤ j) = true) : inB lo hi (.int j) = decide (j < hi) := by
  show (decide (lo ≤ j) && _) = _
  rw [h]
  rfl
theorem inB_f {lo hi j : Int} (h : decide (lo ≤ j) = false) : inB lo hi (.int j) = false := by
  show (decide (lo ≤ j) && _) = _
  rw [h]
  rfl
/-- whether a value is a sequence of integers between -/
def spBtw : Sp := fun vs H Q _ => ∃ (b : Addr) (v : V) (lo hi : Int), vs = [v, .int lo, .int hi] ∧ Tw b H v ∧ ∀ H', Same H H' → Q (.bl (btw H lo hi v)) H'
theorem ok_btw (T : Txt K mg) : FnOk P w K mg base CX0 2 T.a__are_between T.d__are_between ["values", "low", "end"] spBtw := by
  have G_is_whole : FnOk P w K mg base CX0 1 T.a_is_whole T.d_is_whole ["value"] spWhole := ok_whole T
  have G_is_sequence : FnOk P w K mg base CX0 1 T.a_is_sequence T.d_is_sequence ["value"] (spSeq K) := ok_seq T
  refine T.F__are_between.ok sc__are_between (fun vs H Q E h => ?_) (fun cdv A outer s H vs Q E hr h => ?_)
  · obtain ⟨b, v, lo, hi, rfl, _⟩ := h
    rfl
  · obtain ⟨b, v, lo, hi, rfl, hv, k⟩ := h
    have nd := sc__are_between.nd
    refine ⟨_, (pss_one (ps_ret (pe_and (pe_call G_is_sequence (hr.mono (by first | decide | omega)) (by rfl) T.m_is_sequence T.k_is_sequence T.b_is_sequence .nil pass0 (pa_cons (pv 0) pa_nil)) (pe_one (pe_callB (cr_all rfl) (by rfl) T.z_all (by decide +kernel) (pa_cons (pe_lc (own := [("value", 3)]) (g := (gName 3)) (by rfl) nd (pi_seqA (pv 0)) (blkOk_by (N := ["values", "low", "end", "value"]) (sc := defScope s__are_between) (own := [("value", 3)]) (by decide +kernel)) (fun _ _ _ _ _ => by exact (pg_name (i := 3) nd rfl (Or.inl rfl))) (fun _ _ _ _ _ => by exact pts_nil) (fun _ _ _ _ _ => by exact (pe_and (pe_call G_is_whole (hr.mono (by first | decide | omega)) (by rfl) T.m_is_whole T.k_is_whole T.b_is_whole .nil pass0 (pa_cons (pv 3) pa_nil)) (pe_one (pe_chain op_le op_lt (pv 1) (pv 3) (pv 2)))))) pa_nil)))))), ?_⟩
    obtain ⟨t, ty, kt⟩ := sh_seq (K := K) hv.sh
    refine ⟨_, rfl, v, t, _, rfl, ty, kt, fun H1 s1 => ⟨_, rfl, ?_⟩⟩
    cases v with
    | ref a =>
      obtain ⟨ne, xs, e, l, q⟩ := hv
      have es : seqV H (.ref a) = some xs := e.elim seqV_lst seqV_tup
      have kk : ∀ H', Same H H' → Q (.bl (xs.all (inB lo hi))) H' := fun H' s' => by
        have z := k H' s'
        rw [btw_seq es] at z
        exact z
      refine ifT (by rw [es]; rfl) ?_
      have turn : ∀ (D : Addr) (i : Nat) (y : V) (Hc : Hp), H1 D = none → xs[i]? = some y → (Hc D = some (.lst (((xs.take i).map (inB lo hi)).map V.bl)) ∧ Same H1 Hc) → ∃ acc, Hc D = some (.lst acc) ∧ acc.length < sizeLine ∧ (upd Hc D (.lst (acc ++ [.bl (inB lo hi y)])) D = some (.lst (((xs.take (i + 1)).map (inB lo hi)).map V.bl)) ∧ Same H1 (upd Hc D (.lst (acc ++ [.bl (inB lo hi y)])))) := fun D i y Hc hD hy hP =>
        ⟨_, hP.1, szl (by rw [List.length_map, List.length_map, List.length_take]; omega), by rw [upd_same, take_snoc hy, List.map_append, List.map_append]; rfl, same_lst hP.2 hD⟩
      have elt : ∀ (i : Nat) (y : V) (Hc : Hp), xs[i]? = some y → Same H1 Hc → Sh b Hc y := fun i y Hc hy sc => (q y (List.mem_of_getElem? hy)).but (But.of_same (s1.trans sc))
      rcases e with e | e
      · refine ⟨_, rfl, a, rfl, .inl ⟨xs, SqL.of (s1 _ _ e), fun D hD => ?_⟩⟩
        refine lc_list (xs := xs) (fun i Hc => Hc D = some (.lst (((xs.take i).map (inB lo hi)).map V.bl)) ∧ Same H1 Hc) ⟨upd_same, same_new hD⟩ (fun i Hc _ hP => SqL.of (hP.2 _ _ (s1 _ _ e))) (fun i y Hc hy hP => ?_) (fun Hc hP => ?_)
        · have sy := elt i y Hc hy hP.2
          have tn := turn D i y Hc hD hy hP
          refine ⟨rfl, _, rfl, b, y, rfl, sy, _, rfl, ?_⟩
          cases y with
          | int j =>
            refine ifT rfl ⟨_, rfl, _, rfl, _, _, rfl, rfl, _, rfl, ifB (fun e1 => ?_) (fun e1 => ?_)⟩
            · rw [inB_t e1] at tn
              exact ⟨_, rfl, _, _, rfl, rfl, tn⟩
            · rw [inB_f e1] at tn
              exact tn
          | non => exact ifF rfl tn
          | bl _ => exact ifF rfl tn
          | str _ => exact ifF rfl tn
          | ref _ => exact ifF rfl tn
          | byt _ => exact sy.elim
          | flt _ => exact sy.elim
          | ty _ => exact sy.elim
        · obtain ⟨hDc, sc⟩ := hP
          rw [List.take_length] at hDc
          have z := kk Hc (s1.trans sc)
          refine ⟨D, _, rfl, SqL.of hDc, ?_⟩
          show Q _ Hc
          rw [all_map]
          exact z
      · refine ⟨_, rfl, a, rfl, .inr ⟨xs, SqT.of (s1 _ _ e), fun D hD => ?_⟩⟩
        refine lc_tup (xs := xs) (fun i Hc => Hc D = some (.lst (((xs.take i).map (inB lo hi)).map V.bl)) ∧ Same H1 Hc) ⟨upd_same, same_new hD⟩ (fun i Hc _ hP => SqT.of (hP.2 _ _ (s1 _ _ e))) (fun i y Hc hy hP => ?_) (fun Hc hP => ?_)
        · have sy := elt i y Hc hy hP.2
          have tn := turn D i y Hc hD hy hP
          refine ⟨rfl, _, rfl, b, y, rfl, sy, _, rfl, ?_⟩
          cases y with
          | int j =>
            refine ifT rfl ⟨_, rfl, _, rfl, _, _, rfl, rfl, _, rfl, ifB (fun e1 => ?_) (fun e1 => ?_)⟩
            · rw [inB_t e1] at tn
              exact ⟨_, rfl, _, _, rfl, rfl, tn⟩
            · rw [inB_f e1] at tn
              exact tn
          | non => exact ifF rfl tn
          | bl _ => exact ifF rfl tn
          | str _ => exact ifF rfl tn
          | ref _ => exact ifF rfl tn
          | byt _ => exact sy.elim
          | flt _ => exact sy.elim
          | ty _ => exact sy.elim
        · obtain ⟨hDc, sc⟩ := hP
          rw [List.take_length] at hDc
          have z := kk Hc (s1.trans sc)
          refine ⟨D, _, rfl, SqL.of hDc, ?_⟩
          show Q _ Hc
          rw [all_map]
          exact z
    | non => exact ifF rfl (k _ s1)
    | bl _ => exact ifF rfl (k _ s1)
    | int _ => exact ifF rfl (k _ s1)
    | str _ => exact ifF rfl (k _ s1)
    | byt _ => exact hv.elim
    | flt _ => exact hv.elim
    | ty _ => exact hv.elim

/-- the ints from lo on and below hi that are among some -/
def ascN (ns : List Int) (lo : Int) (k : Nat) : List Int := ((List.range k).map fun i => lo + (i : Nat)).filter fun n => decide (n ∈ ns)
def asc (ns : List Int) (lo hi : Int) : List Int := ascN ns lo (hi - lo).toNat
theorem ascN_succ {ns : List Int} {lo : Int} {k : Nat} : ascN ns lo (k + 1) = ascN ns lo k ++ (if decide (lo + (k : Nat) ∈ ns) = true then [lo + (k : Nat)] else []) := by
  unfold ascN
  rw [List.range_succ, List.map_append, List.filter_append]
  congr 1
  show List.filter _ [lo + (k : Nat)] = _
  rw [List.filter_cons, List.filter_nil]
theorem ascN_len {ns : List Int} {lo : Int} {k : Nat} : (ascN ns lo k).length ≤ k := by
  unfold ascN
  refine Nat.le_trans (List.length_filter_le _ _) ?_
  simp
def spAsc (K : PySem.W.Frag) : Sp := fun vs H Q _ => ∃ (a : Addr) (ns : List Int) (lo hi : Int), vs = [.ref a, .int lo, .int hi] ∧ SeqI K H a ns ∧ ns.length ≤ 1000 ∧ 0 ≤ lo ∧ lo ≤ 1 ∧ 0 ≤ hi ∧ hi ≤ 1000 ∧
  ∀ H' p, Same H H' → H p = none → H' p = some (.tup ((asc ns lo hi).map V.int)) → Q (.ref p) H'
theorem ok_asc (T : Txt K mg) : FnOk P w K mg base CX0 1 T.a__ascending T.d__ascending ["values", "low", "end"] (spAsc K) := by
  refine T.F__ascending.ok sc__ascending (fun vs H Q E h => ?_) (fun cdv A outer s H vs Q E hr h => ?_)
  · obtain ⟨a, ns, lo, hi, rfl, _⟩ := h
    rfl
  · obtain ⟨a, ns, lo, hi, rfl, hS, l0, lo0, lo1, hi0, hi1, k⟩ := h
    have nd := sc__ascending.nd
    refine ⟨_, (pss_cons (ps_set (i := 3) nd rfl (Or.inr rfl) (pe_dc (own := [("value", 4)]) (g := (gName 4)) (by rfl) nd (pi_seqA (pv 0)) (blkOk_by (N := ["values", "low", "end", "wanted", "value", "n"]) (sc := defScope s__ascending) (own := [("value", 4)]) (by decide +kernel)) (fun _ _ _ _ _ => by exact (pg_name (i := 4) nd rfl (Or.inl rfl))) (fun _ _ _ _ _ => by exact pts_nil) (fun _ _ _ _ _ => by exact (pv 4)) (fun _ _ _ _ _ => by exact pe_bl)))
    (pss_one (ps_ret (pe_callTy call_tuple_of (by rfl) T.z_tuple (by decide +kernel) (pa_cons (pe_lc (own := [("n", 5)]) (g := (gName 5)) (by rfl) nd (pi_range2 (by rfl) T.z_range (pa_cons (pv 1) (pa_cons (pv 2) pa_nil))) (blkOk_by (N := ["values", "low", "end", "wanted", "value", "n"]) (sc := defScope s__ascending) (own := [("n", 5)]) (by decide +kernel)) (fun _ _ _ _ _ => by exact (pg_name (i := 5) nd rfl (Or.inl rfl))) (fun _ _ _ _ _ => by exact pts_one (pt_cmpR (op_inDict (un1 hr)) (pv 5) (pv 3) (by rfl))) (fun _ _ _ _ _ => by exact (pv 5))) pa_nil))))), ?_⟩
    refine asg_go (dset (sl := 4) (fun R h => ⟨_, rfl, h⟩) (Nat.le_of_ble_eq_true rfl) hS l0 fun D H1 hD s1 hset => ?_)
    refine ⟨_, rfl, _, rfl, lo, hi, rfl, by omega, fun L hL => ?_⟩
    refine lc_range (fun i Hc => Hc L = some (.lst ((ascN ns lo i).map V.int)) ∧ Same H1 Hc) ⟨upd_same, same_new hL⟩ (fun i Hc hi' hP => ?_) (fun Hc hP => ?_)
    · obtain ⟨hLc, sc⟩ := hP
      obtain ⟨o, hg, ho⟩ := (hset.same sc).get (lo + (i : Nat))
      refine ⟨rfl, _, rfl, _, rfl, D, o, rfl, hg, _, rfl, ?_⟩
      rw [ho]
      have z := @ascN_succ ns lo i
      refine ifB (fun e => ?_) (fun e => ?_)
      · rw [if_pos e] at z
        refine ⟨_, rfl, _, hLc, szl (by have := @ascN_len ns lo i; rw [List.length_map]; omega), by rw [upd_same, z, List.map_append]; rfl, same_lst sc hL⟩
      · rw [if_neg (by rw [e]; exact Bool.false_ne_true), List.append_nil] at z
        rw [z]
        exact ⟨hLc, sc⟩
    · obtain ⟨hLc, sc⟩ := hP
      have sH := s1.trans sc
      refine ⟨L, _, rfl, .inl ⟨SqL.of hLc, fun p np => ?_⟩⟩
      exact k _ p (sH.trans (same_new np)) (sH.free np) upd_same

/-! the least period -/
def perOk (p s : Int) (ns : List Int) : Bool := decide (p % s = 0) && ns.all fun r => decide ((r + s) % p ∈ ns)
/-- p is the least period of the rests ns told by the period q -/
structure LeastP (q : Int) (ns : List Int) (p : Int) : Prop where
  p1 : 1 ≤ p
  le : p ≤ q
  ok : p = q ∨ perOk q p ns = true
  no : ∀ s, 1 ≤ s → s < p → perOk q s ns = false
def spLp (K : PySem.W.Frag) : Sp := fun vs H Q _ => ∃ (a : Addr) (ns : List Int) (q : Int), vs = [.int q, .ref a] ∧ SeqI K H a ns ∧ ns.length ≤ 1000 ∧ 1 ≤ q ∧ q ≤ 1000 ∧ ∀ H' p, Same H H' → LeastP q ns p → Q (.int p) H'
theorem ok_lp (T : Txt K mg) : FnOk P w K mg base CX0 1 T.a__least_period T.d__least_period ["period", "rests"] (spLp K) := by
  refine T.F__least_period.ok sc__least_period (fun vs H Q E h => ?_) (fun cdv A outer s H vs Q E hr h => ?_)
  · obtain ⟨a, ns, q, rfl, _⟩ := h
    rfl
  · obtain ⟨a, ns, q, rfl, hS, l0, q0, q1, k⟩ := h
    have nd := sc__least_period.nd
    refine ⟨_, (pss_cons (ps_set (i := 2) nd rfl (Or.inr rfl) (pe_dc (own := [("rest", 3)]) (g := (gName 3)) (by rfl) nd (pi_seqA (pv 1)) (blkOk_by (N := ["period", "rests", "wanted", "rest", "shorter"]) (sc := defScope s__least_period) (own := [("rest", 3)]) (by decide +kernel)) (fun _ _ _ _ _ => by exact (pg_name (i := 3) nd rfl (Or.inl rfl))) (fun _ _ _ _ _ => by exact pts_nil) (fun _ _ _ _ _ => by exact (pv 3)) (fun _ _ _ _ _ => by exact pe_bl)))
    (pss_cons (ps_for PassesOwn.never rfl (pi_range2 (by rfl) T.z_range (pa_cons pe_int (pa_cons (pv 0) pa_nil))) (pg_name (i := 4) nd rfl (Or.inr rfl))
    (pss_one (ps_if (PW.pt (pw_and (pt_cmpR op_eq (pe_op op_mod (pv 0) (pv 4)) pe_int (nomark _)) (pw_and1 (pt_val (pe_callB (cr_all rfl) (by rfl) T.z_all (by decide +kernel) (pa_cons (pe_lc (own := [("rest", 3)]) (g := (gName 3)) (by rfl) nd (pi_seqA (pv 1)) (blkOk_by (N := ["period", "rests", "wanted", "rest", "shorter"]) (sc := defScope s__least_period) (own := [("rest", 3)]) (by decide +kernel)) (fun _ _ _ _ _ => by exact (pg_name (i := 3) nd rfl (Or.inl rfl))) (fun _ _ _ _ _ => by exact pts_nil) (fun _ _ _ _ _ => by exact (pe_cmpR (op_inDict (un1 hr)) (pe_op op_mod (pe_op op_add (pv 3) (pv 4)) (pv 0)) (pv 2) (by rfl)))) pa_nil)))))) (pss_one (ps_ret (pv 4))) pss_nil)))
    (pss_one (ps_ret (pv 0))))), ?_⟩
    refine asg_go (dset (sl := 3) (fun R h => ⟨_, rfl, h⟩) (Nat.le_of_ble_eq_true rfl) hS l0 fun D H1 hD s1 hset => ?_)
    refine ⟨_, rfl, 1, q, rfl, by omega, for_range (fun i σ Hc => ∃ y4, σ = [some (.int q), some (.ref a), some (.ref D), none, y4] ∧ Same H1 Hc ∧ ∀ s : Int, 1 ≤ s → s < 1 + (i : Nat) → perOk q s ns = false)
      ⟨none, rfl, Same.refl _, fun s h1 h2 => by omega⟩ (fun i σ Hc hi hP => ?_) (fun σ Hc hP => ?_)⟩
    · obtain ⟨y4, rfl, sc, no⟩ := hP
      refine ⟨_, rfl, _, rfl, q, 1 + (i : Nat), rfl, rfl, by omega, rfl, _, rfl, ?_⟩
      have more : ∀ (b : Bool), perOk q (1 + (i : Nat)) ns = b → b = false → ∀ s : Int, 1 ≤ s → s < 1 + ((i + 1 : Nat) : Int) → perOk q s ns = false := fun b hb e s h1 h2 => by
        rcases (show s < 1 + (i : Nat) ∨ s = 1 + (i : Nat) by omega) with h | h
        · exact no s h1 h
        · rw [h, hb, e]
      refine ifB (fun e => ?_) (fun e => ?_)
      · have e0 : q % (1 + (i : Nat)) = 0 := by
          have := of_decide_eq_true e
          injection this
        refine b_go (lmap (sl := 3) (fun r => decide ((r + (1 + (i : Nat))) % q ∈ ns)) (fun R h => ⟨_, rfl, h⟩) (hS.same (s1.trans sc)) l0 (fun n Hd R hn sd hR => ?_) (fun L Hd hL sd hLd => ?_))
        · obtain ⟨o, hg, ho⟩ := (hset.same (sc.trans sd)).get ((n + (1 + (i : Nat))) % q)
          refine ⟨_, rfl, _, rfl, n, 1 + (i : Nat), rfl, rfl, _, rfl, _, q, rfl, rfl, by omega, _, rfl, D, o, rfl, hg, ?_⟩
          rw [ho]
          exact hR
        · refine ⟨L, _, rfl, SqL.of hLd, _, rfl, ?_⟩
          rw [all_id]
          have hp : perOk q (1 + (i : Nat)) ns = ns.all (fun r => decide ((r + (1 + (i : Nat))) % q ∈ ns)) := by
            unfold perOk
            rw [decide_eq_true e0]
            rfl
          refine ifB (fun g => ?_) (fun g => ?_)
          · exact ⟨_, rfl, k _ _ (s1.trans (sc.trans sd)) ⟨by omega, by omega, .inr (by rw [hp]; exact g), no⟩⟩
          · exact ⟨_, rfl, sc.trans sd, more _ hp g⟩
      · have e0 : ¬ q % (1 + (i : Nat)) = 0 := fun z => by
          have := of_decide_eq_false e
          exact this (congrArg V.int z)
        have hp : perOk q (1 + (i : Nat)) ns = false := by
          unfold perOk
          rw [decide_eq_false e0]
          rfl
        refine ifF rfl ?_
        exact ⟨_, rfl, sc, more _ hp rfl⟩
    · obtain ⟨y4, rfl, sc, no⟩ := hP
      exact ⟨_, rfl, k _ q (s1.trans sc) ⟨q0, Int.le_refl _, .inl rfl, fun s h1 h2 => no s h1 (by omega)⟩⟩

/-! the least start -/
/-- e is the least start that tells the same as q, with the period p -/
structure LeastS (few : List Int) (q p : Int) (rests : List Int) (e : Int) : Prop where
  e1 : 1 ≤ e
  le : e ≤ q
  same : ∀ n, e ≤ n → n < q → decide (n ∈ few) = decide (n % p ∈ rests)
  no : e = 1 ∨ decide (e - 1 ∈ few) ≠ decide ((e - 1) % p ∈ rests)
def spLs (K : PySem.W.Frag) : Sp := fun vs H Q _ => ∃ (a c : Addr) (fs rs : List Int) (q p : Int), vs = [.ref a, .int q, .int p, .ref c] ∧ SeqI K H a fs ∧ fs.length ≤ 1000 ∧ SeqI K H c rs ∧ rs.length ≤ 1000 ∧ 1 ≤ q ∧ 1 ≤ p ∧ ∀ H' e, Same H H' → LeastS fs q p rs e → Q (.int e) H'
def lastI : Option (Option V) → Nat
  | some (some (V.int e)) => e.toNat
  | _ => 0
theorem dec_bl2 {a b : Bool} (h : decide (V.bl a = V.bl b) = true) : a = b := by
  have := of_decide_eq_true h
  injection this
theorem ok_ls (T : Txt K mg) : FnOk P w K mg base CX0 1 T.a__least_start T.d__least_start ["few", "start", "period", "rests"] (spLs K) := by
  refine T.F__least_start.ok sc__least_start (fun vs H Q E h => ?_) (fun cdv A outer s H vs Q E hr h => ?_)
  · obtain ⟨a, c, fs, rs, q, p, rfl, _⟩ := h
    rfl
  · obtain ⟨a, c, fs, rs, q, p, rfl, hF, l0, hR, l1, q0, p0, k⟩ := h
    have nd := sc__least_start.nd
    refine ⟨_, (pss_cons (ps_setDc (i := 4) (own := [("n", 5)]) (g := (gName 5)) (by rfl) nd rfl rfl (sw_dc rfl rfl rfl (by decide +kernel)) (pi_seqA (pv 0)) (blkOk_by (N := ["few", "start", "period", "rests", "early", "n", "late", "rest", "earlier"]) (sc := defScope s__least_start) (own := [("n", 5)]) (by decide +kernel)) (fun _ _ _ _ _ => by exact (pg_name (i := 5) nd rfl (Or.inl rfl))) (fun _ _ _ _ _ => by exact pts_nil) (fun _ _ _ _ _ => by exact (pv 5)) (fun _ _ _ _ _ => by exact pe_bl))
    (pss_cons (ps_setDc (i := 6) (own := [("rest", 7)]) (g := (gName 7)) (by rfl) nd rfl rfl (sw_dc rfl rfl rfl (by decide +kernel)) (pi_seqA (pv 3)) (blkOk_by (N := ["few", "start", "period", "rests", "early", "n", "late", "rest", "earlier"]) (sc := defScope s__least_start) (own := [("rest", 7)]) (by decide +kernel)) (fun _ _ _ _ _ => by exact (pg_name (i := 7) nd rfl (Or.inl rfl))) (fun _ _ _ _ _ => by exact pts_nil) (fun _ _ _ _ _ => by exact (pv 7)) (fun _ _ _ _ _ => by exact pe_bl))
    (pss_cons (ps_set (i := 8) nd rfl (Or.inl rfl) (pv 1))
    (pss_cons (ps_while PassesOwn.never (PW.pt (pw_and (pt_cmpR op_gt (pv 8) pe_int (nomark _)) (pw_and1 (pt_cmpR op_eq (pe_cmpR (op_inDict (un1 hr)) (pe_op op_sub (pv 8) pe_int) (pv 4) (by rfl)) (pe_cmpR (op_inDict (un1 hr)) (pe_op op_mod (pe_op op_sub (pv 8) pe_int) (pv 2)) (pv 6) (by rfl)) (nomark _))))) (pss_one (ps_aug (i := 8) nd rfl (Or.inl rfl) pe_int ip_sub)))
    (pss_one (ps_ret (pv 8))))))), ?_⟩
    refine asg_go (dset (sl := 5) (fun R h => ⟨_, rfl, h⟩) (Nat.le_of_ble_eq_true rfl) hF l0 fun D H1 hD s1 hd => ?_)
    refine asg_go (dset (sl := 7) (fun R h => ⟨_, rfl, h⟩) (Nat.le_of_ble_eq_true rfl) (hR.same s1) l1 fun L H2 hL s2 hl => ?_)
    have s02 := s1.trans s2
    have hd2 := hd.same s2
    refine ⟨_, rfl, ?_⟩
    refine while_by (fun σ Hc => Hc = H2 ∧ ∃ e, σ = [some (.ref a), some (.int q), some (.int p), some (.ref c), some (.ref D), none, some (.ref L), none, some (.int e)] ∧ 1 ≤ e ∧ e ≤ q ∧ ∀ n, e ≤ n → n < q → decide (n ∈ fs) = decide (n % p ∈ rs))
      (fun σ _ => lastI σ[8]?) ⟨rfl, q, rfl, q0, Int.le_refl _, fun n h1 h2 => by omega⟩ (fun σ Hc hP => ?_) ?_
    · obtain ⟨rfl, e, rfl, e1, eq, same⟩ := hP
      refine ⟨_, rfl, e, 1, rfl, rfl, _, rfl, ifB (fun g => ?_) (fun g => ?_)⟩
      · have g := of_decide_eq_true g
        obtain ⟨o1, g1, h1⟩ := hd2.get (e - 1)
        obtain ⟨o2, g2, h2⟩ := hl.get ((e - 1) % p)
        refine ⟨_, rfl, e, 1, rfl, rfl, _, rfl, D, o1, rfl, g1, _, rfl, e, 1, rfl, rfl, _, rfl, e - 1, p, rfl, rfl, by omega, _, rfl, L, o2, rfl, g2, rfl, _, rfl, ?_⟩
        rw [h1, h2]
        refine ifB (fun z => ?_) (fun z => ?_)
        · have z := dec_bl2 z
          refine ⟨_, rfl, e, 1, rfl, rfl, ⟨rfl, e - 1, rfl, by omega, by omega, fun n a1 a2 => ?_⟩, ?_⟩
          · rcases (show n = e - 1 ∨ e ≤ n by omega) with h | h
            · rw [h]
              exact z
            · exact same n h a2
          · show (e - 1).toNat < e.toNat
            omega
        · have z : decide (e - 1 ∈ fs) ≠ decide ((e - 1) % p ∈ rs) := fun y => of_decide_eq_false z (congrArg V.bl y)
          exact ⟨_, rfl, k _ e s02 ⟨e1, eq, same, .inr z⟩⟩
      · have g := of_decide_eq_false g
        exact ⟨_, rfl, k _ e s02 ⟨e1, eq, same, .inl (by omega)⟩⟩
    · intro σ H Q Q' m h
      obtain ⟨v, hv, i, j, r1, r2, b, hb, h⟩ := h
      refine ⟨v, hv, i, j, r1, r2, b, hb, ?_⟩
      cases b with
      | false => exact iteF (m _ _ (by rw [if_neg Bool.false_ne_true] at h; exact h))
      | true =>
        rw [if_pos rfl] at h
        obtain ⟨v1, h1, i1, j1, r3, r4, v2, h2, a2, o2, r5, g2, v3, h3, i3, j3, r6, r7, v4, h4, i4, j4, r8, r9, c9, v5, h5, a5, o5, r10, g5, sc, b5, hb5, h⟩ := h
        exact iteT ⟨v1, h1, i1, j1, r3, r4, v2, h2, a2, o2, r5, g2, v3, h3, i3, j3, r6, r7, v4, h4, i4, j4, r8, r9, c9, v5, h5, a5, o5, r10, g5, sc, b5, hb5, m _ _ h⟩

end
end K30
namespace K30
open PySem PySem.Spec PyProof.Rows L2 Rs
local macro_rules | `(tactic| walk_at "om") => `(tactic| first | omega | (dsimp only; omega))
local macro_rules | `(tactic| walk_at "side") => `(tactic| first | omega | (dsimp only; omega) | decide | (unfold CMul; omega) | (unfold CDiv; omega) | (unfold CPow; omega) | exact wide_div (b := 64) (by omega) (by omega) (by decide) (by decide))
local macro_rules | `(tactic| walk_at "hp") => `(tactic| first | assumption | exact upd_same)
local macro_rules | `(tactic| walk_at "sq") => `(tactic| first | assumption | exact SqL.of (by assumption) | exact SqL.of upd_same)
local macro_rules | `(tactic| walk_at "st") => `(tactic| first
  | refine ⟨_, rfl, ?_⟩
  | (refine ⟨_, _, rfl, rfl, And.intro ?side ?_⟩; (case side => walk_at "side"))
  | refine ⟨_, _, rfl, rfl, ?_⟩
  | (refine' ⟨_, _, _, _, rfl, rfl, SqL.of ?hp, ?atx, ?_⟩; (case hp => walk_at "hp"); (case atx => exact rfl))
  | (refine' ⟨_, _, _, _, rfl, rfl, ?hp, ?atx, ?_⟩; (case hp => walk_at "hp"); (case atx => exact rfl))
  | (refine' ⟨_, _, rfl, Or.inl ?sq, ?_⟩; (case sq => walk_at "sq"))
  | refine Or.inl ⟨_, rfl, ?_⟩
  | refine Or.inr ⟨_, rfl, ?_⟩)
local macro_rules | `(tactic| walk_at "evd") => `(tactic| first
  | exact evd_int
  | exact evd_str
  | exact evd_non
  | exact evd_bl
  | exact evd_nil
  | (refine evd_cons ?_ (fun _ => ?_) <;> walk_at "evd")
  | (refine evd_tup ?_ (Nat.le_of_ble_eq_true rfl); walk_at "evd"))

section
variable {P : Program} {w : World} {K : PySem.W.Frag} {mg : Str → Option Value} {base : Heap}
/-! Calendar(few, start, period, rests) -/
theorem from1_int {v : V} (h : from1 v = true) : ∃ q, v = .int q ∧ 1 ≤ q := by
  cases v with
  | int i => exact ⟨i, rfl, of_decide_eq_true h⟩
  | _ => exact absurd h (by simp [from1])
def intOf : V → Int
  | .int i => i
  | _ => 0
/-- the name of the first argument that is wrong -/
def dueC (H : Hp) (v0 v1 v2 v3 : V) : V := if from1 v1 = false then .str "start" else if from1 v2 = false then .str "period" else if btw H 1 (intOf v1) v0 = false then .str "few" else if btw H 0 (intOf v2) v3 = false then .str "rests" else .non
theorem due_start {H : Hp} {v0 v1 v2 v3 : V} (h : from1 v1 = false) : dueC H v0 v1 v2 v3 = .str "start" := by unfold dueC; rw [if_pos h]
theorem due_period {H : Hp} {v0 v1 v2 v3 : V} (h : from1 v1 = true) (h2 : from1 v2 = false) : dueC H v0 v1 v2 v3 = .str "period" := by unfold dueC; rw [if_neg (by rw [h]; simp), if_pos h2]
theorem due_few {H : Hp} {v0 v1 v2 v3 : V} (h : from1 v1 = true) (h2 : from1 v2 = true) (h3 : btw H 1 (intOf v1) v0 = false) : dueC H v0 v1 v2 v3 = .str "few" := by unfold dueC; rw [if_neg (by rw [h]; simp), if_neg (by rw [h2]; simp), if_pos h3]
theorem due_rests {H : Hp} {v0 v1 v2 v3 : V} (h : from1 v1 = true) (h2 : from1 v2 = true) (h3 : btw H 1 (intOf v1) v0 = true) (h4 : btw H 0 (intOf v2) v3 = false) : dueC H v0 v1 v2 v3 = .str "rests" := by unfold dueC; rw [if_neg (by rw [h]; simp), if_neg (by rw [h2]; simp), if_neg (by rw [h3]; simp), if_pos h4]
theorem due_non {H : Hp} {v0 v1 v2 v3 : V} (h : from1 v1 = true) (h2 : from1 v2 = true) (h3 : btw H 1 (intOf v1) v0 = true) (h4 : btw H 0 (intOf v2) v3 = true) : dueC H v0 v1 v2 v3 = .non := by unfold dueC; rw [if_neg (by rw [h]; simp), if_neg (by rw [h2]; simp), if_neg (by rw [h3]; simp), if_neg (by rw [h4]; simp)]
/-- what a calendar made of these keeps -/
def CalF (H : Hp) (gs : List (Str × V)) (few : List Int) (start period : Int) (rests : List Int) : Prop := ∃ (pf pr : Addr) (e p : Int), gs = putF "few" (.ref pf) (putF "start" (.int e) (putF "rests" (.ref pr) (putF "period" (.int p) []))) ∧
  LeastP period rests p ∧ LeastS few start p (asc rests 0 p) e ∧ H pr = some (.tup ((asc rests 0 p).map V.int)) ∧ H pf = some (.tup ((asc few 1 e).map V.int))
theorem ok_exc (T : Txt K mg) : FnOk P w K mg base CX0 1 T.a_InvalidCalendar___init__ T.d_InvalidCalendar___init__ ["self", "word"] (spExc T.c_InvalidCalendar "word") := by
  refine T.F_InvalidCalendar___init__.ok sc_InvalidCalendar___init__ (fun vs H Q E h => ?_) (fun cdv A outer s H vs Q E hr h => ?_)
  · obtain ⟨a, v, rfl, _⟩ := h
    rfl
  · obtain ⟨a, v, rfl, ha, k⟩ := h
    refine ⟨_, pss_one (ps_ost (pv 0) (pv 1)), ?_⟩
    exact ⟨_, rfl, _, rfl, a, T.c_InvalidCalendar, rfl, T.x_InvalidCalendar, T.n_InvalidCalendar, .inl ⟨ha, fun dx hd ne => k dx hd ne⟩⟩
theorem ne_of_none' {H : Hp} {a l : Addr} {o : HO} (h : H a = some o) (n : H l = none) : l ≠ a := by
  rintro rfl
  rw [n] at h
  cases h
def Seq2 (H : Hp) (a : Addr) (xs : List V) : Prop := H a = some (.lst xs) ∨ H a = some (.tup xs)
theorem Seq2.i {H : Hp} {a : Addr} {ns : List Int} (h : Seq2 H a (ns.map V.int)) : SeqI K H a ns := h.imp (fun h => SqL.of h) (fun h => SqT.of h)
theorem tw_btw {b : Addr} {H : Hp} {v : V} {lo hi : Int} (h : Tw b H v) (e : btw H lo hi v = true) : ∃ (a : Addr) (ns : List Int), v = .ref a ∧ Seq2 H a (ns.map V.int) ∧ ns.length ≤ 100 ∧ ∀ n ∈ ns, lo ≤ n ∧ n < hi := by
  cases v with
  | ref a =>
    obtain ⟨ne, xs, f, l, _⟩ := h
    rw [btw_seq (f.elim seqV_lst seqV_tup)] at e
    obtain ⟨ns, rfl, q⟩ := all_inB e
    rw [List.length_map] at l
    exact ⟨a, ns, rfl, f, l, q⟩
  | _ => exact absurd e (by simp [btw, seqV])
def spInitC (CI CC : Addr) : Sp := fun vs H Q E => ∃ (x dx b : Addr) (v0 v1 v2 v3 : V), vs = [.ref x, v0, v1, v2, v3] ∧ H x = some (.ins CC dx []) ∧ Tw b H v0 ∧ Sh b H v1 ∧ Sh b H v2 ∧ Tw b H v3 ∧ (∀ i, v1 = .int i → i ≤ 1000) ∧ (∀ i, v2 = .int i → i ≤ 1000) ∧
  (∀ (a0 a3 : Addr) (fs rs : List Int) (q p : Int), v0 = .ref a0 → v1 = .int q → v2 = .int p → v3 = .ref a3 → Seq2 H a0 (fs.map V.int) → Seq2 H a3 (rs.map V.int) → 1 ≤ q → 1 ≤ p → (∀ n ∈ fs, 1 ≤ n ∧ n < q) → (∀ n ∈ rs, 0 ≤ n ∧ n < p) →
    dueC H v0 v1 v2 v3 = .non → ∀ F gs, But x H F → F x = some (.ins CC dx gs) → CalF F gs fs q p rs → Q .non F) ∧
  (∀ s, dueC H v0 v1 v2 v3 = .str s → ∀ H1, Same H H1 → ∀ d, H1 d = none → E (.ref CI) (some d) (upd H1 d (.xd [("word", .str s)])))
theorem ok_init (T : Txt K mg) : FnOk P w K mg base (L2.CX P w) 4 T.a_Calendar___init__ T.d_Calendar___init__ ["self", "few", "start", "period", "rests"] (spInitC T.c_InvalidCalendar T.c_Calendar) := by
  have G__is_from_1 : FnOk P w K mg base CX0 2 T.a__is_from_1 T.d__is_from_1 ["value"] spFrom1 := ok_from1 T
  have G__are_between : FnOk P w K mg base CX0 2 T.a__are_between T.d__are_between ["values", "low", "end"] spBtw := ok_btw T
  have G__ascending : FnOk P w K mg base CX0 1 T.a__ascending T.d__ascending ["values", "low", "end"] (spAsc K) := ok_asc T
  have G__least_period : FnOk P w K mg base CX0 1 T.a__least_period T.d__least_period ["period", "rests"] (spLp K) := ok_lp T
  have G__least_start : FnOk P w K mg base CX0 1 T.a__least_start T.d__least_start ["few", "start", "period", "rests"] (spLs K) := ok_ls T
  have GE_InvalidCalendar : FnOk P w K mg base CX0 1 T.a_InvalidCalendar___init__ T.d_InvalidCalendar___init__ ["self", "word"] (spExc T.c_InvalidCalendar "word") := ok_exc T
  refine T.F_Calendar___init__.ok sc_Calendar___init__ (fun vs H Q E h => ?_) (fun cdv A outer s H vs Q E hr h => ?_)
  · obtain ⟨x, dx, b, v0, v1, v2, v3, rfl, _⟩ := h
    rfl
  · obtain ⟨x, dx, b, v0, v1, v2, v3, rfl, hx, t0, t1, t2, t3, m1, m2, kn, ke⟩ := h
    have nd := sc_Calendar___init__.nd
    refine ⟨_, (pss_cons (ps_if (pt_not (pt_val (pe_call G__is_from_1 (hr.mono (by first | decide | omega)) (by rfl) T.m__is_from_1 T.k__is_from_1 T.b__is_from_1 .nil pass0 (pa_cons (pv 2) pa_nil)))) (pss_one (ps_raise rfl (takes_of rfl rfl rfl rfl) (pmk_oex T.x_InvalidCalendar T.i_InvalidCalendar T.t_InvalidCalendar GE_InvalidCalendar (hr.mono (by first | decide | omega)) T.b_InvalidCalendar___init__ .nil pass0 (by rfl) T.m_InvalidCalendar (pa_cons pe_str pa_nil)))) pss_nil)
    (pss_cons (ps_if (pt_not (pt_val (pe_call G__is_from_1 (hr.mono (by first | decide | omega)) (by rfl) T.m__is_from_1 T.k__is_from_1 T.b__is_from_1 .nil pass0 (pa_cons (pv 3) pa_nil)))) (pss_one (ps_raise rfl (takes_of rfl rfl rfl rfl) (pmk_oex T.x_InvalidCalendar T.i_InvalidCalendar T.t_InvalidCalendar GE_InvalidCalendar (hr.mono (by first | decide | omega)) T.b_InvalidCalendar___init__ .nil pass0 (by rfl) T.m_InvalidCalendar (pa_cons pe_str pa_nil)))) pss_nil)
    (pss_cons (ps_if (pt_not (pt_val (pe_call G__are_between (hr.mono (by first | decide | omega)) (by rfl) T.m__are_between T.k__are_between T.b__are_between .nil pass0 (pa_cons (pv 1) (pa_cons pe_int (pa_cons (pv 2) pa_nil)))))) (pss_one (ps_raise rfl (takes_of rfl rfl rfl rfl) (pmk_oex T.x_InvalidCalendar T.i_InvalidCalendar T.t_InvalidCalendar GE_InvalidCalendar (hr.mono (by first | decide | omega)) T.b_InvalidCalendar___init__ .nil pass0 (by rfl) T.m_InvalidCalendar (pa_cons pe_str pa_nil)))) pss_nil)
    (pss_cons (ps_if (pt_not (pt_val (pe_call G__are_between (hr.mono (by first | decide | omega)) (by rfl) T.m__are_between T.k__are_between T.b__are_between .nil pass0 (pa_cons (pv 4) (pa_cons pe_int (pa_cons (pv 3) pa_nil)))))) (pss_one (ps_raise rfl (takes_of rfl rfl rfl rfl) (pmk_oex T.x_InvalidCalendar T.i_InvalidCalendar T.t_InvalidCalendar GE_InvalidCalendar (hr.mono (by first | decide | omega)) T.b_InvalidCalendar___init__ .nil pass0 (by rfl) T.m_InvalidCalendar (pa_cons pe_str pa_nil)))) pss_nil)
    (pss_cons (ps_fld (pv 0) (pe_call G__least_period (hr.mono (by first | decide | omega)) (by rfl) T.m__least_period T.k__least_period T.b__least_period .nil pass0 (pa_cons (pv 3) (pa_cons (pv 4) pa_nil))) rfl)
    (pss_cons (ps_fld (pv 0) (pe_call G__ascending (hr.mono (by first | decide | omega)) (by rfl) T.m__ascending T.k__ascending T.b__ascending .nil pass0 (pa_cons (pv 4) (pa_cons pe_int (pa_cons (pe_fld (pv 0) rfl) pa_nil)))) rfl)
    (pss_cons (ps_fld (pv 0) (pe_call G__least_start (hr.mono (by first | decide | omega)) (by rfl) T.m__least_start T.k__least_start T.b__least_start .nil pass0 (pa_cons (pv 1) (pa_cons (pv 2) (pa_cons (pe_fld (pv 0) rfl) (pa_cons (pe_fld (pv 0) rfl) pa_nil))))) rfl)
    (pss_one (ps_fld (pv 0) (pe_call G__ascending (hr.mono (by first | decide | omega)) (by rfl) T.m__ascending T.k__ascending T.b__ascending .nil pass0 (pa_cons (pv 1) (pa_cons pe_int (pa_cons (pe_fld (pv 0) rfl) pa_nil)))) rfl))))))))), ?_⟩
    refine ⟨_, rfl, b, v1, rfl, t1, _, rfl, ?_⟩
    cases h1 : from1 v1 with
    | false => exact ifT rfl (make_exc fun d hd => ke "start" (due_start h1) H (Same.refl _) d hd)
    | true =>
    refine ifF rfl ?_
    refine ⟨_, rfl, b, v2, rfl, t2, _, rfl, ?_⟩
    cases h2 : from1 v2 with
    | false => exact ifT rfl (make_exc fun d hd => ke "period" (due_period h1 h2) H (Same.refl _) d hd)
    | true =>
    refine ifF rfl ?_
    obtain ⟨q, rfl, q1⟩ := from1_int h1
    obtain ⟨p, rfl, p1⟩ := from1_int h2
    refine ⟨_, rfl, _, rfl, b, v0, 1, q, rfl, t0, fun H1 s1 => ⟨_, rfl, ?_⟩⟩
    cases h3 : btw H 1 q v0 with
    | false => exact ifT rfl (make_exc fun d hd => ke "few" (due_few h1 h2 h3) H1 s1 d hd)
    | true =>
    refine ifF rfl ?_
    refine ⟨_, rfl, _, rfl, b, v3, 0, p, rfl, t3.but (But.of_same s1), fun H2 s2 => ⟨_, rfl, ?_⟩⟩
    have s02 := s1.trans s2
    rw [btw_tw t3 (But.of_same s1)]
    cases h4 : btw H 0 p v3 with
    | false => exact ifT rfl (make_exc fun d hd => ke "rests" (due_rests h1 h2 h3 h4) H2 s02 d hd)
    | true =>
    refine ifF rfl ?_
    obtain ⟨a0, fs, rfl, e0, l0, in0⟩ := tw_btw t0 h3
    obtain ⟨a3, rs, rfl, e3, l3, in3⟩ := tw_btw t3 h4
    have n0 : a0 ≠ x := by
      rintro rfl
      rcases e0 with e | e <;> (rw [hx] at e; cases e)
    have n3 : a3 ≠ x := by
      rintro rfl
      rcases e3 with e | e <;> (rw [hx] at e; cases e)
    have q2 := m1 q rfl
    have p2 := m2 p rfl
    have move : ∀ {a : Addr} {xs : List V} {F : Hp}, a ≠ x → Seq2 H a xs → But x H F → Seq2 F a xs := fun ne e k => e.imp (k _ _ ne) (k _ _ ne)
    have k2 : But x H H2 := But.of_same s02
    have hx2 := s02 _ _ hx
    refine ⟨_, rfl, _, rfl, a3, rs, p, rfl, (move n3 e3 k2).i, by omega, p1, p2, fun H3 p' s3 lp => ?_⟩
    have k3 := k2.trans (But.of_same s3)
    refine ⟨_, rfl, x, T.c_Calendar, dx, _, rfl, s3 _ _ hx2, T.C_Calendar, T.n_Calendar_period, by decide, ?_⟩
    have lp1 := lp.p1
    have lp2 := lp.le
    have k4 : But x H (upd H3 x (.ins T.c_Calendar dx (putF "period" (.int p') []))) := k3.upd
    have hx4 : upd H3 x (.ins T.c_Calendar dx (putF "period" (.int p') [])) x = some (.ins T.c_Calendar dx (putF "period" (.int p') [])) := upd_same
    dsimp only
    generalize upd H3 x (.ins T.c_Calendar dx (putF "period" (.int p') [])) = H4 at k4 hx4 ⊢
    refine ⟨_, rfl, _, rfl, x, _, dx, _, _, rfl, hx4, T.C_Calendar, T.n_Calendar_period, rfl, a3, rs, 0, p', rfl, (move n3 e3 k4).i, by omega, by decide, by decide, by omega, by omega, fun H5 pr s5 npr hpr => ?_⟩
    have k5 := k4.trans (But.of_same s5)
    refine ⟨_, rfl, x, T.c_Calendar, dx, _, rfl, s5 _ _ hx4, T.C_Calendar, T.n_Calendar_rests, by show 1 < 1000; decide, ?_⟩
    have npx : pr ≠ x := ne_of_none' hx4 npr
    have k6 : But x H (upd H5 x (.ins T.c_Calendar dx (putF "rests" (.ref pr) (putF "period" (.int p') [])))) := k5.upd
    have hx6 : upd H5 x (.ins T.c_Calendar dx (putF "rests" (.ref pr) (putF "period" (.int p') []))) x = some (.ins T.c_Calendar dx (putF "rests" (.ref pr) (putF "period" (.int p') []))) := upd_same
    have hpr6 : upd H5 x (.ins T.c_Calendar dx (putF "rests" (.ref pr) (putF "period" (.int p') []))) pr = some (.tup ((asc rs 0 p').map V.int)) := by
      rw [upd_ne npx]
      exact hpr
    dsimp only
    generalize upd H5 x (.ins T.c_Calendar dx (putF "rests" (.ref pr) (putF "period" (.int p') []))) = H6 at k6 hx6 hpr6 ⊢
    have al : (asc rs 0 p').length ≤ 1000 := by
      have := @ascN_len rs 0 (p' - 0).toNat
      unfold asc
      omega
    refine ⟨_, rfl, _, rfl, _, rfl, x, _, dx, _, _, rfl, hx6, T.C_Calendar, T.n_Calendar_period, rfl, _, rfl, x, _, dx, _, _, rfl, hx6, T.C_Calendar, T.n_Calendar_rests, rfl, a0, pr, fs, asc rs 0 p', q, p', rfl, (move n0 e0 k6).i, by omega, Seq2.i (.inr hpr6), al, q1, by omega, fun H7 e s7 ls => ?_⟩
    have k7 := k6.trans (But.of_same s7)
    have ls1 := ls.e1
    have ls2 := ls.le
    refine ⟨_, rfl, x, T.c_Calendar, dx, _, rfl, s7 _ _ hx6, T.C_Calendar, T.n_Calendar_start, by show 2 < 1000; decide, ?_⟩
    have k8 : But x H (upd H7 x (.ins T.c_Calendar dx (putF "start" (.int e) (putF "rests" (.ref pr) (putF "period" (.int p') []))))) := k7.upd
    have hx8 : upd H7 x (.ins T.c_Calendar dx (putF "start" (.int e) (putF "rests" (.ref pr) (putF "period" (.int p') [])))) x = some (.ins T.c_Calendar dx (putF "start" (.int e) (putF "rests" (.ref pr) (putF "period" (.int p') [])))) := upd_same
    have hpr8 : upd H7 x (.ins T.c_Calendar dx (putF "start" (.int e) (putF "rests" (.ref pr) (putF "period" (.int p') [])))) pr = some (.tup ((asc rs 0 p').map V.int)) := by
      rw [upd_ne npx]
      exact s7 _ _ hpr6
    dsimp only
    generalize upd H7 x (.ins T.c_Calendar dx (putF "start" (.int e) (putF "rests" (.ref pr) (putF "period" (.int p') [])))) = H8 at k8 hx8 hpr8 ⊢
    refine ⟨_, rfl, _, rfl, x, _, dx, _, _, rfl, hx8, T.C_Calendar, T.n_Calendar_start, rfl, a0, fs, 1, e, rfl, (move n0 e0 k8).i, by omega, by decide, by decide, by omega, by omega, fun H9 pf s9 npf hpf => ?_⟩
    refine ⟨_, rfl, x, T.c_Calendar, dx, _, rfl, s9 _ _ hx8, T.C_Calendar, T.n_Calendar_few, by show 3 < 1000; decide, ?_⟩
    have nfx : pf ≠ x := ne_of_none' hx8 npf
    exact kn a0 a3 fs rs q p rfl rfl rfl rfl e0 e3 q1 p1 in0 in3 (due_non h1 h2 h3 h4) _ _ (k8.trans (But.of_same s9)).upd upd_same
      ⟨pf, pr, e, p', rfl, lp, ls, by rw [upd_ne npx]; exact s9 _ _ hpr8, by rw [upd_ne nfx]; exact hpf⟩

end
end K30
namespace K30
open PySem PySem.Spec PyProof.Rows L2 Rs
local macro_rules | `(tactic| walk_at "om") => `(tactic| first | omega | (dsimp only; omega))
local macro_rules | `(tactic| walk_at "side") => `(tactic| first | omega | (dsimp only; omega) | decide | (unfold CMul; omega) | (unfold CDiv; omega) | (unfold CPow; omega) | exact wide_div (b := 64) (by omega) (by omega) (by decide) (by decide))
local macro_rules | `(tactic| walk_at "hp") => `(tactic| first | assumption | exact upd_same)
local macro_rules | `(tactic| walk_at "sq") => `(tactic| first | assumption | exact SqL.of (by assumption) | exact SqL.of upd_same)
local macro_rules | `(tactic| walk_at "st") => `(tactic| first
  | refine ⟨_, rfl, ?_⟩
  | (refine ⟨_, _, rfl, rfl, And.intro ?side ?_⟩; (case side => walk_at "side"))
  | refine ⟨_, _, rfl, rfl, ?_⟩
  | (refine' ⟨_, _, _, _, rfl, rfl, SqL.of ?hp, ?atx, ?_⟩; (case hp => walk_at "hp"); (case atx => exact rfl))
  | (refine' ⟨_, _, _, _, rfl, rfl, ?hp, ?atx, ?_⟩; (case hp => walk_at "hp"); (case atx => exact rfl))
  | (refine' ⟨_, _, rfl, Or.inl ?sq, ?_⟩; (case sq => walk_at "sq"))
  | refine Or.inl ⟨_, rfl, ?_⟩
  | refine Or.inr ⟨_, rfl, ?_⟩)
local macro_rules | `(tactic| walk_at "evd") => `(tactic| first
  | exact evd_int
  | exact evd_str
  | exact evd_non
  | exact evd_bl
  | exact evd_nil
  | (refine evd_cons ?_ (fun _ => ?_) <;> walk_at "evd")
  | (refine evd_tup ?_ (Nat.le_of_ble_eq_true rfl); walk_at "evd"))

section
variable {P : Program} {w : World} {K : PySem.W.Frag} {mg : Str → Option Value} {base : Heap}
def spAny (d : Nat) : Sp := fun vs H Q _ => ∃ (b : Addr), vs = [.ref b, .int d] ∧ Box H b ∧ ∀ (v : V) (H' : Hp), Tw b H' v → NewV H v → Box H' b → But b H H' → Q v H'
theorem none_ok {f : Addr} {fd : FuncData} {ps : List Str} {k : Nat} : FnOk P w K mg base CX0 k f fd ps (fun _ _ _ _ => False) := ⟨fun _ _ _ _ h => h.elim, fun _ _ _ _ _ _ _ _ _ _ _ _ _ h => h.elim⟩
theorem any_step (T : Txt K mg) (d k : Nat) (hk : 2 ≤ k) (sp : Sp) (G__law_any : FnOk P w K mg base CX0 k T.a__law_any T.d__law_any ["_law_box_here", "_law_deep"] sp)
    (hsp : ∀ d', d = d' + 1 → sp = spAny d') : FnOk P w K mg base CX0 (k + 1) T.a__law_any T.d__law_any ["_law_box_here", "_law_deep"] (spAny d) := by
  have G__law_take : FnOk P w K mg base CX0 1 T.a__law_take T.d__law_take ["_law_box_here", "_law_many"] spTake := ok_take T
  have G__law_pick : FnOk P w K mg base CX0 2 T.a__law_pick T.d__law_pick ["_law_box_here", "_law_some"] spPick := ok_pick T
  refine T.F__law_any.ok sc__law_any (fun vs H Q E h => ?_) (fun cdv A outer s H vs Q E hr h => ?_)
  · obtain ⟨b, rfl, _⟩ := h
    rfl
  · obtain ⟨b, rfl, hB, k⟩ := h
    have nd := sc__law_any.nd
    have hr2 : Room 2 _ := hr.mono hk
    refine ⟨_, (pss_cons (ps_set (i := 2) nd rfl (Or.inl rfl) (pe_call G__law_take (hr.mono (by first | decide | omega)) (by rfl) T.m__law_take T.k__law_take T.b__law_take .nil pass0 (pa_cons (pv 0) (pa_cons pe_int pa_nil))))
    (pss_cons (ps_if (PW.pt (pw_and (pt_cmpR op_lt (pv 2) pe_int (nomark _)) (pw_and1 (pt_cmpR op_gt (pv 1) pe_int (nomark _))))) (pss_cons (ps_setLc (i := 3) (own := [("_law_k", 4)]) (g := (gName 4)) (by rfl) nd rfl rfl (sw_true rfl rfl rfl (by decide +kernel)) (pi_range1 (by rfl) T.z_range (pa_cons (pe_call G__law_take (hr.mono (by first | decide | omega)) (by rfl) T.m__law_take T.k__law_take T.b__law_take .nil pass0 (pa_cons (pv 0) (pa_cons pe_int pa_nil))) pa_nil)) (blkOk_by (N := ["_law_box_here", "_law_deep", "_law_form", "_law_some", "_law_k", "_law_words", "_law_plain"]) (sc := defScope s__law_any) (own := [("_law_k", 4)]) (by decide +kernel)) (fun _ _ _ _ _ => by exact (pg_name (i := 4) nd rfl (Or.inl rfl))) (fun _ _ _ _ _ => by exact pts_nil) (fun _ _ _ _ _ => by exact (pe_call G__law_any (hr.mono (by first | decide | omega)) (by rfl) T.m__law_any T.k__law_any T.b__law_any .nil pass0 (pa_cons (pv 0) (pa_cons (pe_op op_sub (pv 1) pe_int) pa_nil)))))
    (pss_one (ps_ret (pe_ifExp (pt_cmpR op_lt (pv 2) pe_int (nomark _)) (pv 3) (pe_callTy call_tuple_of (by rfl) T.z_tuple (by decide +kernel) (pa_cons (pv 3) pa_nil)))))) pss_nil)
    (pss_cons (ps_set (i := 5) nd rfl (Or.inl rfl) (pe_lst (pa_cons pe_str (pa_cons pe_str (pa_cons pe_str (pa_cons pe_str (pa_cons pe_str (pa_cons pe_str (pa_cons pe_str (pa_cons pe_str (pa_cons pe_str (pa_cons pe_str (pa_cons pe_str (pa_cons pe_str (pa_cons pe_str (pa_cons pe_str (pa_cons pe_str pa_nil)))))))))))))))))
    (pss_cons (ps_set (i := 6) nd rfl (Or.inl rfl) (pe_lst (pa_cons pe_non (pa_cons pe_bl (pa_cons pe_bl (pa_cons pe_int (pa_cons pe_int (pa_cons pe_int (pa_cons (pe_op op_sub pe_int pe_int) (pa_cons (pe_op op_sub (pe_op op_pow pe_int pe_int) pe_int) (pa_cons (pe_lst (pa_cons pe_str pa_nil)) (pa_cons (pe_tup (pa_cons pe_int (pa_cons pe_int pa_nil))) (pa_cons pe_int pa_nil)))))))))))))
    (pss_one (ps_ret (pe_ifExp (pt_cmpR op_lt (pv 2) pe_int (nomark _)) (pe_call G__law_pick (hr.mono (by first | decide | omega)) (by rfl) T.m__law_pick T.k__law_pick T.b__law_pick .nil pass0 (pa_cons (pv 0) (pa_cons (pv 5) pa_nil))) (pe_call G__law_pick (hr.mono (by first | decide | omega)) (by rfl) T.m__law_pick T.k__law_pick T.b__law_pick .nil pass0 (pa_cons (pv 0) (pa_cons (pv 6) pa_nil)))))))))), ?_⟩
    refine ⟨_, rfl, b, 14, rfl, hB, by decide, by decide, fun r H1 r0 r1 B1 k1 => ?_⟩
    refine ⟨_, rfl, _, _, rfl, rfl, _, rfl, ifB (fun e1 => ⟨_, rfl, _, _, rfl, rfl, _, rfl, ifB (fun e2 => ?rec) (fun _ => ?t1)⟩) (fun _ => ?t2)⟩
    case rec =>
        have e2 := of_decide_eq_true e2
        obtain ⟨d', rfl⟩ : ∃ d', d = d' + 1 := ⟨d - 1, by omega⟩
        have esp := hsp d' rfl
        subst esp
        refine ⟨_, rfl, b, 3, rfl, B1, by decide, by decide, fun m H2 m0 m1 B2 k2 => ?_⟩
        refine ⟨m, rfl, by omega, by omega, fun D hD => lc_range (fun i H3 => ∃ acc, H3 D = some (.lst acc) ∧ acc.length = i ∧ (∀ x ∈ acc, Sh b H3 x) ∧ Box H3 b ∧ But b H2 H3)
          ⟨[], upd_same, rfl, (fun x h => nomatch h), B2.same (same_new hD), But.of_same (same_new hD)⟩ (fun i H3 hi hP => ?_) (fun H3 hP => ?_)⟩
        · obtain ⟨acc, hA, hl, hacc, B3, k3⟩ := hP
          have neD := B2.ne_none hD
          refine ⟨rfl, _, rfl, _, rfl, _, _, rfl, rfl, b, ?_, B3, fun v H4 hv _ B4 k4 => ⟨acc, k4 _ _ neD hA, szl (by omega), acc ++ [v], upd_same, by rw [List.length_append, hl]; rfl, (fun x hx => by
            rcases List.mem_append.mp hx with h | h
            · exact ((hacc x h).but k4).set (k4 _ _ neD hA)
            · rw [List.mem_singleton] at h
              subst h
              exact hv.sh.set (k4 _ _ neD hA)), box_ne B4 neD, but_new (k3.trans k4) hD⟩⟩
          show [V.ref b, V.int (((d' + 1 : Nat) : Int) - 1)] = [V.ref b, V.int (d' : Nat)]
          rw [show (((d' + 1 : Nat) : Int) - 1) = (d' : Nat) by omega]
        · obtain ⟨acc, hA, hl, hacc, B3, k3⟩ := hP
          have neD := B2.ne_none hD
          have kk := (k1.trans k2).trans k3
          refine ⟨_, rfl, _, _, rfl, rfl, _, rfl, ifB (fun e3 => ?_) (fun e3 => ?_)⟩
          · exact ⟨_, rfl, k _ _ ⟨neD, acc, .inl hA, by omega, hacc⟩ (fun y ey => by injection ey with ey; subst ey; exact (k1.trans k2).free neD hD) B3 kk⟩
          · refine ⟨_, rfl, D, acc, rfl, .inl ⟨SqL.of hA, fun l hl' => ?_⟩⟩
            exact k _ _ ⟨B3.ne_none hl', acc, .inr upd_same, by omega, fun x hx => (hacc x hx).but (But.of_same (same_new hl'))⟩ (fun y ey => by injection ey with ey; subst ey; exact kk.free (B3.ne_none hl') hl') (B3.same (same_new hl')) (kk.trans (But.of_same (same_new hl')))
    all_goals
      refine ⟨szL (Nat.le_of_ble_eq_true rfl), fun W nW => ?_⟩
      have BW := B1.same (same_new (o := .lst [.str "", .str "up", .str "+", .str "add", .str "n", .str "n-1", .str "lost", .str "lacking", .str "0", .str "-", .str "put", .str "rounds n", .str "down", .str "\n", .str "(n)/2"]) nW)
      repeat walk_at "st"
      refine fun p1 np1 => ?_
      have B2 := BW.same (same_new (o := .lst [.str "n"]) np1)
      repeat walk_at "st"
      refine ⟨szL (Nat.le_of_ble_eq_true rfl), fun p2 np2 => ?_⟩
      have B3 := B2.same (same_new (o := .tup [.int 1, .int 2]) np2)
      repeat walk_at "st"
      refine ⟨szL (Nat.le_of_ble_eq_true rfl), fun p3 np3 => ?_⟩
      have B4 := B3.same (same_new (o := .lst [.non, .bl true, .bl false, .int 0, .int 1, .int 2, .int (0 - 1), .int (10 ^ 9 - 1), .ref p1, .ref p2, .int 4]) np3)
      have kk := ((k1.trans (But.of_same (same_new (o := .lst [.str "", .str "up", .str "+", .str "add", .str "n", .str "n-1", .str "lost", .str "lacking", .str "0", .str "-", .str "put", .str "rounds n", .str "down", .str "\n", .str "(n)/2"]) nW))).trans (But.of_same (same_new (o := .lst [.str "n"]) np1))).trans ((But.of_same (same_new (o := .tup [.int 1, .int 2]) np2)).trans (But.of_same (same_new (o := .lst [.non, .bl true, .bl false, .int 0, .int 1, .int 2, .int (0 - 1), .int (10 ^ 9 - 1), .ref p1, .ref p2, .int 4]) np3)))
      have w1 : W ≠ b := B1.ne_none nW
      have p1b : p1 ≠ b := BW.ne_none np1
      have p2b : p2 ≠ b := B2.ne_none np2
      have p3b : p3 ≠ b := B3.ne_none np3
      refine ⟨_, rfl, _, _, rfl, rfl, _, rfl, ifB (fun _ => ?_) (fun _ => ?_)⟩
      · refine' ⟨_, rfl, _, rfl, b, W, _, rfl, B4, w1, ?hW, ?l0, ?l1, fun v H5 hv B5 k5 => k v H5 ?fin ?new B5 (kk.trans k5)⟩
        case hW =>
          rw [upd_ne (ne_of_none (by rw [upd_ne (ne_of_none (by rw [upd_ne (ne_of_none upd_same np1)]; exact upd_same) np2), upd_ne (ne_of_none upd_same np1)]; exact upd_same) np3), upd_ne (ne_of_none (by rw [upd_ne (ne_of_none upd_same np1)]; exact upd_same) np2), upd_ne (ne_of_none upd_same np1)]
          exact upd_same
        case l0 => simp
        case l1 => simp
        case fin =>
          simp only [List.mem_cons, List.not_mem_nil, or_false] at hv
          rcases hv with h | h | h | h | h | h | h | h | h | h | h | h | h | h | h <;> (subst h; trivial)
        case new =>
          simp only [List.mem_cons, List.not_mem_nil, or_false] at hv
          rcases hv with h | h | h | h | h | h | h | h | h | h | h | h | h | h | h <;> (subst h; exact fun y ey => nomatch ey)
      · refine ⟨_, rfl, _, rfl, b, p3, _, rfl, B4, p3b, upd_same, by simp, by simp, fun v H5 hv B5 k5 => k v H5 ?_ ?_ B5 (kk.trans k5)⟩
        · simp only [List.mem_cons, List.not_mem_nil, or_false] at hv
          rcases hv with h | h | h | h | h | h | h | h | h | h | h
          case' inr.inr.inr.inr.inr.inr.inr.inr.inl =>
            subst h
            exact ⟨p1b, _, .inl (k5 _ _ p1b (by rw [upd_ne (ne_of_none (by rw [upd_ne (ne_of_none upd_same np2)]; exact upd_same) np3), upd_ne (ne_of_none upd_same np2)]; exact upd_same)), by simp, fun x hx => by simp at hx; subst hx; trivial⟩
          case' inr.inr.inr.inr.inr.inr.inr.inr.inr.inl =>
            subst h
            exact ⟨p2b, _, .inr (k5 _ _ p2b (by rw [upd_ne (ne_of_none upd_same np3)]; exact upd_same)), by simp, fun x hx => by simp at hx; rcases hx with rfl | rfl <;> trivial⟩
          all_goals (subst h; trivial)
        · simp only [List.mem_cons, List.not_mem_nil, or_false] at hv
          rcases hv with h | h | h | h | h | h | h | h | h | h | h
          case' inr.inr.inr.inr.inr.inr.inr.inr.inl =>
            subst h
            exact fun y ey => by injection ey with ey; subst ey; exact (k1.trans (But.of_same (same_new nW))).free p1b np1
          case' inr.inr.inr.inr.inr.inr.inr.inr.inr.inl =>
            subst h
            exact fun y ey => by injection ey with ey; subst ey; exact ((k1.trans (But.of_same (same_new nW))).trans (But.of_same (same_new np1))).free p2b np2
          all_goals (subst h; exact fun y ey => nomatch ey)
theorem ok_any (T : Txt K mg) : ∀ d : Nat, FnOk P w K mg base CX0 (3 + d) T.a__law_any T.d__law_any ["_law_box_here", "_law_deep"] (spAny d)
  | 0 => any_step T 0 2 (Nat.le_refl _) _ none_ok (fun d' h => by omega)
  | d + 1 => any_step T (d + 1) (3 + d) (by omega) (spAny d) (ok_any T d) (fun d' h => by rw [show d' = d by omega])

/-! drawn arguments -/
structure RawI (fs rs : List Int) (q p far wide : Int) : Prop where
  q1 : 1 ≤ q
  q2 : q ≤ far
  p1 : 1 ≤ p
  p2 : p ≤ wide
  f1 : fs.length ≤ 100
  r1 : rs.length ≤ 100
  f2 : ∀ n ∈ fs, 1 ≤ n ∧ n < q
  r2 : ∀ n ∈ rs, 0 ≤ n ∧ n < p
def spRaw : Sp := fun vs H Q _ => ∃ (b : Addr) (far wide : Int), vs = [.ref b, .int far, .int wide] ∧ Box H b ∧ 0 < far ∧ far ≤ 100 ∧ 0 < wide ∧ wide ≤ 90 ∧
  ∀ (t a0 a3 : Addr) (fs rs : List Int) (q p : Int) (H' : Hp), H' t = some (.tup [.ref a0, .int q, .int p, .ref a3]) → H' a0 = some (.lst (fs.map V.int)) → H' a3 = some (.lst (rs.map V.int)) → H a0 = none → H a3 = none → a0 ≠ b → a3 ≠ b → a0 ≠ a3 →
    RawI fs rs q p far wide → Box H' b → But b H H' → Q (.ref t) H'
theorem ok_raw (T : Txt K mg) : FnOk P w K mg base CX0 3 T.a__law_raw T.d__law_raw ["_law_box_here", "_law_far", "_law_wide"] spRaw := by
  have G__law_take : FnOk P w K mg base CX0 1 T.a__law_take T.d__law_take ["_law_box_here", "_law_many"] spTake := ok_take T
  have G__law_pick : FnOk P w K mg base CX0 2 T.a__law_pick T.d__law_pick ["_law_box_here", "_law_some"] spPick := ok_pick T
  refine T.F__law_raw.ok sc__law_raw (fun vs H Q E h => ?_) (fun cdv A outer s H vs Q E hr h => ?_)
  · obtain ⟨b, far, wide, rfl, _⟩ := h
    rfl
  · obtain ⟨b, far, wide, rfl, hB, f0, f1, w0, w1, k⟩ := h
    have nd := sc__law_raw.nd
    refine ⟨_, (pss_cons (ps_set (i := 3) nd rfl (Or.inr rfl) (pe_op op_add pe_int (pe_call G__law_take (hr.mono (by first | decide | omega)) (by rfl) T.m__law_take T.k__law_take T.b__law_take .nil pass0 (pa_cons (pv 0) (pa_cons (pv 1) pa_nil)))))
    (pss_cons (ps_set (i := 4) nd rfl (Or.inr rfl) (pe_op op_add pe_int (pe_call G__law_take (hr.mono (by first | decide | omega)) (by rfl) T.m__law_take T.k__law_take T.b__law_take .nil pass0 (pa_cons (pv 0) (pa_cons (pv 2) pa_nil)))))
    (pss_cons (ps_set (i := 5) nd rfl (Or.inl rfl) (pe_ifExp (pt_cmpR op_gt (pv 3) pe_int (nomark _)) (pe_lc (own := [("_law_turn", 6)]) (g := (gName 6)) (by rfl) nd (pi_range1 (by rfl) T.z_range (pa_cons (pe_call G__law_take (hr.mono (by first | decide | omega)) (by rfl) T.m__law_take T.k__law_take T.b__law_take .nil pass0 (pa_cons (pv 0) (pa_cons pe_int pa_nil))) pa_nil)) (blkOk_by (N := ["_law_box_here", "_law_far", "_law_wide", "_law_start", "_law_period", "_law_few", "_law_turn", "_law_rests"]) (sc := defScope s__law_raw) (own := [("_law_turn", 6)]) (by decide +kernel)) (fun _ _ _ _ _ => by exact (pg_name (i := 6) nd rfl (Or.inl rfl))) (fun _ _ _ _ _ => by exact pts_nil) (fun _ _ _ _ _ => by exact (pe_op op_add pe_int (pe_call G__law_take (hr.mono (by first | decide | omega)) (by rfl) T.m__law_take T.k__law_take T.b__law_take .nil pass0 (pa_cons (pv 0) (pa_cons (pe_op op_sub (pv 3) pe_int) pa_nil)))))) (pe_lst pa_nil)))
    (pss_cons (ps_setLc (i := 7) (own := [("_law_turn", 6)]) (g := (gName 6)) (by rfl) nd rfl rfl (sw_true rfl rfl rfl (by decide +kernel)) (pi_range1 (by rfl) T.z_range (pa_cons (pe_call G__law_pick (hr.mono (by first | decide | omega)) (by rfl) T.m__law_pick T.k__law_pick T.b__law_pick .nil pass0 (pa_cons (pv 0) (pa_cons (pe_lst (pa_cons pe_int (pa_cons pe_int (pa_cons pe_int (pa_cons pe_int (pa_cons pe_int (pa_cons (pv 4) pa_nil))))))) pa_nil))) pa_nil)) (blkOk_by (N := ["_law_box_here", "_law_far", "_law_wide", "_law_start", "_law_period", "_law_few", "_law_turn", "_law_rests"]) (sc := defScope s__law_raw) (own := [("_law_turn", 6)]) (by decide +kernel)) (fun _ _ _ _ _ => by exact (pg_name (i := 6) nd rfl (Or.inl rfl))) (fun _ _ _ _ _ => by exact pts_nil) (fun _ _ _ _ _ => by exact (pe_call G__law_take (hr.mono (by first | decide | omega)) (by rfl) T.m__law_take T.k__law_take T.b__law_take .nil pass0 (pa_cons (pv 0) (pa_cons (pv 4) pa_nil)))))
    (pss_one (ps_ret (pe_tup (pa_cons (pv 5) (pa_cons (pv 3) (pa_cons (pv 4) (pa_cons (pv 7) pa_nil))))))))))), ?_⟩
    refine ⟨_, rfl, _, rfl, b, far, rfl, hB, f0, by omega, fun r H1 r0 r1 B1 k1 => ⟨_, _, rfl, rfl, ?_⟩⟩
    refine ⟨_, rfl, _, rfl, b, wide, rfl, B1, w0, by omega, fun r' H2 p0 p1 B2 k2 => ⟨_, _, rfl, rfl, ?_⟩⟩
    have k02 := k1.trans k2
    have tail : ∀ (a0 : Addr) (fs : List Int) (H3 : Hp), H a0 = none → a0 ≠ b → H3 a0 = some (.lst (fs.map V.int)) → fs.length ≤ 100 → (∀ n ∈ fs, 1 ≤ n ∧ n < 1 + r) → Box H3 b → But b H H3 →
        tSeq (tAsg (tLc (iRng1 (tCons (tCall spPick [] E0 (tCons (tVar 0) (tCons (tLst (tCons (tC (V.int 0)) (tCons (tC (V.int 1)) (tCons (tC (V.int 1)) (tCons (tC (V.int 2)) (tCons (tC (V.int 3)) (tCons (tVar 4) tNil))))))) tNil))) tNil)) (gName 6) tYes (tCall spTake [] E0 (tCons (tVar 0) (tCons (tVar 4) tNil))) [6]) (gName 7))
          (tRet (tTup (tCons (tVar 5) (tCons (tVar 3) (tCons (tVar 4) (tCons (tVar 7) tNil)))))) { nx := fun x H' => Q V.non H', rt := Q } [some (.ref b), some (.int far), some (.int wide), some (.int (1 + r)), some (.int (1 + r')), some (.ref a0), none, none] H3 := by
      intro a0 fs H3 na0 nb0 h0 l0 in0 B3 k03
      refine asg_go (ldraw (b := b) (lo := 0) (hi := 1 + r') (fun R hR => ?_) (fun x Hc R Bc hR => ?_) (fun D ns H4 nD neD hD lD inD B4 k4 => ?_))
      · refine ⟨_, rfl, _, rfl, szL (Nat.le_of_ble_eq_true rfl), fun L nL => ?_⟩
        refine ⟨b, L, _, rfl, B3.same (same_new nL), B3.ne_none nL, upd_same, by simp, by simp, fun v H5 hv B5 k5 => ?_⟩
        obtain ⟨m, rfl, m0, m1⟩ : ∃ m, v = .int m ∧ 0 ≤ m ∧ m ≤ 100 := by
          simp only [List.mem_cons, List.not_mem_nil, or_false] at hv
          rcases hv with h | h | h | h | h | h <;> exact ⟨_, h, by omega, by omega⟩
        exact hR m H5 m0 m1 B5 ((But.of_same (same_new nL)).trans k5)
      · exact ⟨_, rfl, _, rfl, b, 1 + r', rfl, Bc, by omega, by omega, fun n H5 n0 n1 B5 k5 => hR n H5 n0 n1 B5 k5⟩
      · refine ⟨_, rfl, _, rfl, _, rfl, _, rfl, szL (Nat.le_of_ble_eq_true rfl), fun t nt => ?_⟩
        have ne : a0 ≠ D := by
          rintro rfl
          rw [nD] at h0
          cases h0
        exact k t a0 D fs ns (1 + r) (1 + r') _ upd_same (same_new nt _ _ (k4 _ _ nb0 h0)) (same_new nt _ _ hD) na0 (k03.free neD nD) nb0 neD ne ⟨by omega, by omega, by omega, by omega, l0, lD, in0, inD⟩ (B4.same (same_new nt)) ((k03.trans k4).trans (But.of_same (same_new nt)))
    refine ⟨_, rfl, _, _, rfl, rfl, _, rfl, ifB (fun e => ?_) (fun e => ?_)⟩
    · have e := of_decide_eq_true e
      refine ldraw (b := b) (lo := 1) (hi := 1 + r) (fun R hR => ?_) (fun x Hc R Bc hR => ?_) (fun D ns H4 nD neD hD lD inD B4 k4 => ?_)
      · exact ⟨_, rfl, b, 6, rfl, B2, by decide, by decide, fun m H3 m0 m1 B3 k3 => hR m H3 m0 (by omega) B3 k3⟩
      · exact ⟨_, rfl, _, rfl, _, _, rfl, rfl, b, 1 + r - 1, rfl, Bc, by omega, by omega, fun n H5 n0 n1 B5 k5 => ⟨_, _, rfl, rfl, hR _ H5 (by omega) (by omega) B5 k5⟩⟩
      · exact tail D ns H4 (k02.free neD nD) neD hD lD inD B4 (k02.trans k4)
    · refine ⟨szL (Nat.le_of_ble_eq_true rfl), fun L nL => ?_⟩
      exact tail L [] _ (k02.free (B2.ne_none nL) nL) (B2.ne_none nL) upd_same (by simp) (fun n h => nomatch h) (B2.same (same_new nL)) (k02.trans (But.of_same (same_new nL)))

/-! the law's own look -/
def geI (lo : Int) : V → Bool
  | .int i => decide (lo ≤ i)
  | _ => false
def spWholeL : Sp := fun vs H Q _ => ∃ (b : Addr) (v : V) (lo : Int), vs = [v, .int lo] ∧ Sh b H v ∧ Q (.bl (geI lo v)) H
theorem ok_lwhole (T : Txt K mg) : FnOk P w K mg base CX0 1 T.a__law_is_whole T.d__law_is_whole ["_law_value", "_law_low"] spWholeL := by
  refine T.F__law_is_whole.ok sc__law_is_whole (fun vs H Q E h => ?_) (fun cdv A outer s H vs Q E hr h => ?_)
  · obtain ⟨b, v, lo, rfl, _⟩ := h
    rfl
  · obtain ⟨b, v, lo, rfl, hv, k⟩ := h
    have nd := sc__law_is_whole.nd
    refine ⟨_, (pss_one (ps_ret (pe_and (pe_callB call_isi (by rfl) T.z_isinstance (by decide +kernel) (pa_cons (pv 0) (pa_cons (pe_bltn (v := .ty "int") (u := .type "int") (by rfl) T.z_int (by decide +kernel) (by exact rfl)) pa_nil))) (pe_and (pe_not (pe_callB call_isi (by rfl) T.z_isinstance (by decide +kernel) (pa_cons (pv 0) (pa_cons (pe_bltn (v := .ty "bool") (u := .type "bool") (by rfl) T.z_bool (by decide +kernel) (by exact rfl)) pa_nil)))) (pe_one (pe_cmpR op_ge (pv 0) (pv 1) (nomark _))))))), ?_⟩
    obtain ⟨t, ty, ki, kb⟩ := hv.ty (K := K)
    refine ⟨_, rfl, _, _, _, _, _, rfl, .ty _, ty, kit_ty ki, _, rfl, ?_⟩
    cases v with
    | int i => exact ifT rfl ⟨_, rfl, _, _, _, _, _, rfl, .ty _, ty, kit_ty kb, _, rfl, _, rfl, ifT rfl ⟨_, rfl, _, rfl, _, _, rfl, rfl, k⟩⟩
    | bl c => exact ifT rfl ⟨_, rfl, _, _, _, _, _, rfl, .ty _, ty, kit_ty kb, _, rfl, _, rfl, ifF rfl k⟩
    | non => exact ifF rfl k
    | str _ => exact ifF rfl k
    | ref _ => exact ifF rfl k
    | byt _ => exact hv.elim
    | flt _ => exact hv.elim
    | ty _ => exact hv.elim
theorem inB_not {lo hi : Int} {v : V} : inB lo (hi + 1) v = (geI lo v && !(match v with | .int i => decide (hi < i) | _ => false)) := by
  cases v with
  | int i =>
    show (decide (lo ≤ i) && decide (i < hi + 1)) = (decide (lo ≤ i) && !decide (hi < i))
    congr 1
    by_cases h : hi < i
    · rw [decide_eq_true h, decide_eq_false (by omega)]
      rfl
    · rw [decide_eq_false h, decide_eq_true (by omega)]
      rfl
  | _ => rfl
theorem filter_none {f : V → Bool} : ∀ {xs : List V}, (xs.filter fun y => !f y).isEmpty = xs.all f
  | [] => rfl
  | x :: xs => by
    rw [List.filter_cons, List.all_cons]
    cases e : f x with
    | true => simpa using filter_none (xs := xs)
    | false => rfl
def spLBtw : Sp := fun vs H Q _ => ∃ (b : Addr) (v : V) (lo hi : Int), vs = [v, .int lo, .int hi] ∧ Tw b H v ∧ ∀ H', Same H H' → Q (.bl (btw H lo (hi + 1) v)) H'
theorem ok_lbtw (T : Txt K mg) : FnOk P w K mg base CX0 2 T.a__law_are_between T.d__law_are_between ["_law_value", "_law_low", "_law_high"] spLBtw := by
  have G__law_is_whole : FnOk P w K mg base CX0 1 T.a__law_is_whole T.d__law_is_whole ["_law_value", "_law_low"] spWholeL := ok_lwhole T
  refine T.F__law_are_between.ok sc__law_are_between (fun vs H Q E h => ?_) (fun cdv A outer s H vs Q E hr h => ?_)
  · obtain ⟨b, v, lo, hi, rfl, _⟩ := h
    rfl
  · obtain ⟨b, v, lo, hi, rfl, hv, k⟩ := h
    have nd := sc__law_are_between.nd
    refine ⟨_, (pss_cons (ps_if (pt_not (pt_val (pe_callB call_isiT (by rfl) T.z_isinstance (by decide +kernel) (pa_cons (pv 0) (pa_cons (pe_tup (pa_cons (pe_bltn (v := .ty "list") (u := .type "list") (by rfl) T.z_list (by decide +kernel) (by exact rfl)) (pa_cons (pe_bltn (v := .ty "tuple") (u := .type "tuple") (by rfl) T.z_tuple (by decide +kernel) (by exact rfl)) pa_nil))) pa_nil))))) (pss_one (ps_ret pe_bl)) pss_nil)
    (pss_one (ps_ret (pe_cmpR (op_eqNil (un1 hr)) (pe_lc (own := [("_law_one", 3)]) (g := (gName 3)) (by rfl) nd (pi_seqA (pv 0)) (blkOk_by (N := ["_law_value", "_law_low", "_law_high", "_law_one"]) (sc := defScope s__law_are_between) (own := [("_law_one", 3)]) (by decide +kernel)) (fun _ _ _ _ _ => by exact (pg_name (i := 3) nd rfl (Or.inl rfl))) (fun _ _ _ _ _ => by exact pts_one (PW.pt (pw_or (pt_not (pt_val (pe_call G__law_is_whole (hr.mono (by first | decide | omega)) (by rfl) T.m__law_is_whole T.k__law_is_whole T.b__law_is_whole .nil pass0 (pa_cons (pv 3) (pa_cons (pv 1) pa_nil))))) (pw_or1 (pt_cmpR op_gt (pv 3) (pv 2) (nomark _)))))) (fun _ _ _ _ _ => by exact (pv 3))) (pe_lst pa_nil) (nomark _))))), ?_⟩
    obtain ⟨t, ty, kt⟩ := sh_seq (K := K) hv.sh
    refine ⟨_, rfl, szL (Nat.le_of_ble_eq_true rfl), fun tp ntp => ?_⟩
    have s1 := same_new (H := H) (o := .tup [.ty "list", .ty "tuple"]) ntp
    have htp : upd H tp (.tup [.ty "list", .ty "tuple"]) tp = some (.tup [.ty "list", .ty "tuple"]) := upd_same
    generalize upd H tp (.tup [.ty "list", .ty "tuple"]) = H1 at s1 htp ⊢
    refine ⟨v, tp, _, t, _, _, rfl, htp, .cons (.ty _) (.cons (.ty _) .nil), tyx_same s1 ty, kt, _, rfl, ?_⟩
    cases v with
    | ref a =>
      obtain ⟨ne, xs, e, l, q⟩ := hv
      have es : seqV H (.ref a) = some xs := e.elim seqV_lst seqV_tup
      have kk : ∀ H', Same H H' → Q (.bl (xs.all (inB lo (hi + 1)))) H' := fun H' s' => by
        have z := k H' s'
        rw [btw_seq es] at z
        exact z
      refine ifF (by rw [es]; rfl) ?_
      have elt : ∀ (i : Nat) (y : V) (Hc : Hp), xs[i]? = some y → Same H1 Hc → Sh b Hc y := fun i y Hc hy sc => (q y (List.mem_of_getElem? hy)).but (But.of_same (s1.trans sc))
      rcases e with e | e
      · refine ⟨_, rfl, a, rfl, .inl ⟨xs, SqL.of (s1 _ _ e), fun D hD => ?_⟩⟩
        refine lc_list (xs := xs) (fun i Hc => Hc D = some (.lst ((xs.take i).filter fun y => !inB lo (hi + 1) y)) ∧ Same H1 Hc) ⟨upd_same, same_new hD⟩ (fun i Hc _ hP => SqL.of (hP.2 _ _ (s1 _ _ e))) (fun i y Hc hy hP => ?_) (fun Hc hP => ?_)
        · have sy := elt i y Hc hy hP.2
          have tk := take_snoc hy
          have hn := (List.getElem?_eq_some_iff.mp hy).1
          refine ⟨rfl, ?_⟩
          have yes : inB lo (hi + 1) y = false → ∃ acc, Hc D = some (.lst acc) ∧ acc.length < sizeLine ∧ (upd Hc D (.lst (acc ++ [y])) D = some (.lst ((xs.take (i + 1)).filter fun y => !inB lo (hi + 1) y)) ∧ Same H1 (upd Hc D (.lst (acc ++ [y])))) := fun e =>
            ⟨_, hP.1, szl (by have := List.length_filter_le (fun y => !inB lo (hi + 1) y) (xs.take i); rw [List.length_take] at this; omega), by rw [upd_same, tk, List.filter_append, List.filter_cons, e]; rfl, same_lst hP.2 hD⟩
          have no : inB lo (hi + 1) y = true → (Hc D = some (.lst ((xs.take (i + 1)).filter fun y => !inB lo (hi + 1) y)) ∧ Same H1 Hc) := fun e => by
            rw [tk, List.filter_append, List.filter_cons, e]
            simpa using hP
          refine ⟨_, rfl, _, rfl, b, y, lo, rfl, sy, _, rfl, ?_⟩
          cases hg : geI lo y with
          | false =>
            have e : inB lo (hi + 1) y = false := by
              rw [inB_not, hg]
              rfl
            exact iteT (iteT ⟨_, rfl, yes e⟩)
          | true =>
            cases y with
            | int j =>
              refine iteF ⟨_, rfl, _, rfl, j, hi, rfl, rfl, _, rfl, ifB (fun g => ⟨_, rfl, yes ?_⟩) (fun g => no ?_)⟩
              · rw [inB_not, hg]
                show (true && !decide (hi < j)) = false
                rw [g]
                rfl
              · rw [inB_not, hg]
                show (true && !decide (hi < j)) = true
                rw [g]
                rfl
            | _ => exact absurd hg (by simp [geI])
        · have zz := 0
          obtain ⟨hDc, sc⟩ := hP
          rw [List.take_length] at hDc
          refine ⟨szL (Nat.le_of_ble_eq_true rfl), fun L nL => ?_⟩
          have z := kk (upd Hc L (.lst [])) ((s1.trans sc).trans (same_new nL))
          refine ⟨D, L, _, rfl, rfl, SqL.of (same_new nL _ _ hDc), SqL.of upd_same, ?_⟩
          rw [filter_none]
          exact z
      · refine ⟨_, rfl, a, rfl, .inr ⟨xs, SqT.of (s1 _ _ e), fun D hD => ?_⟩⟩
        refine lc_tup (xs := xs) (fun i Hc => Hc D = some (.lst ((xs.take i).filter fun y => !inB lo (hi + 1) y)) ∧ Same H1 Hc) ⟨upd_same, same_new hD⟩ (fun i Hc _ hP => SqT.of (hP.2 _ _ (s1 _ _ e))) (fun i y Hc hy hP => ?_) (fun Hc hP => ?_)
        · have sy := elt i y Hc hy hP.2
          have tk := take_snoc hy
          have hn := (List.getElem?_eq_some_iff.mp hy).1
          refine ⟨rfl, ?_⟩
          have yes : inB lo (hi + 1) y = false → ∃ acc, Hc D = some (.lst acc) ∧ acc.length < sizeLine ∧ (upd Hc D (.lst (acc ++ [y])) D = some (.lst ((xs.take (i + 1)).filter fun y => !inB lo (hi + 1) y)) ∧ Same H1 (upd Hc D (.lst (acc ++ [y])))) := fun e =>
            ⟨_, hP.1, szl (by have := List.length_filter_le (fun y => !inB lo (hi + 1) y) (xs.take i); rw [List.length_take] at this; omega), by rw [upd_same, tk, List.filter_append, List.filter_cons, e]; rfl, same_lst hP.2 hD⟩
          have no : inB lo (hi + 1) y = true → (Hc D = some (.lst ((xs.take (i + 1)).filter fun y => !inB lo (hi + 1) y)) ∧ Same H1 Hc) := fun e => by
            rw [tk, List.filter_append, List.filter_cons, e]
            simpa using hP
          refine ⟨_, rfl, _, rfl, b, y, lo, rfl, sy, _, rfl, ?_⟩
          cases hg : geI lo y with
          | false =>
            have e : inB lo (hi + 1) y = false := by
              rw [inB_not, hg]
              rfl
            exact iteT (iteT ⟨_, rfl, yes e⟩)
          | true =>
            cases y with
            | int j =>
              refine iteF ⟨_, rfl, _, rfl, j, hi, rfl, rfl, _, rfl, ifB (fun g => ⟨_, rfl, yes ?_⟩) (fun g => no ?_)⟩
              · rw [inB_not, hg]
                show (true && !decide (hi < j)) = false
                rw [g]
                rfl
              · rw [inB_not, hg]
                show (true && !decide (hi < j)) = true
                rw [g]
                rfl
            | _ => exact absurd hg (by simp [geI])
        · have zz := 0
          obtain ⟨hDc, sc⟩ := hP
          rw [List.take_length] at hDc
          refine ⟨szL (Nat.le_of_ble_eq_true rfl), fun L nL => ?_⟩
          have z := kk (upd Hc L (.lst [])) ((s1.trans sc).trans (same_new nL))
          refine ⟨D, L, _, rfl, rfl, SqL.of (same_new nL _ _ hDc), SqL.of upd_same, ?_⟩
          rw [filter_none]
          exact z
    | non => exact ifT rfl (k _ s1)
    | bl _ => exact ifT rfl (k _ s1)
    | int _ => exact ifT rfl (k _ s1)
    | str _ => exact ifT rfl (k _ s1)
    | byt _ => exact hv.elim
    | flt _ => exact hv.elim
    | ty _ => exact hv.elim

end
end K30
namespace K30
open PySem PySem.Spec PyProof.Rows L2 Rs
local macro_rules | `(tactic| walk_at "om") => `(tactic| first | omega | (dsimp only; omega))
local macro_rules | `(tactic| walk_at "side") => `(tactic| first | omega | (dsimp only; omega) | decide | (unfold CMul; omega) | (unfold CDiv; omega) | (unfold CPow; omega) | exact wide_div (b := 64) (by omega) (by omega) (by decide) (by decide))
local macro_rules | `(tactic| walk_at "hp") => `(tactic| first | assumption | exact upd_same)
local macro_rules | `(tactic| walk_at "sq") => `(tactic| first | assumption | exact SqL.of (by assumption) | exact SqL.of upd_same)
local macro_rules | `(tactic| walk_at "st") => `(tactic| first
  | refine ⟨_, rfl, ?_⟩
  | (refine ⟨_, _, rfl, rfl, And.intro ?side ?_⟩; (case side => walk_at "side"))
  | refine ⟨_, _, rfl, rfl, ?_⟩
  | (refine' ⟨_, _, _, _, rfl, rfl, SqL.of ?hp, ?atx, ?_⟩; (case hp => walk_at "hp"); (case atx => exact rfl))
  | (refine' ⟨_, _, _, _, rfl, rfl, ?hp, ?atx, ?_⟩; (case hp => walk_at "hp"); (case atx => exact rfl))
  | (refine' ⟨_, _, rfl, Or.inl ?sq, ?_⟩; (case sq => walk_at "sq"))
  | refine Or.inl ⟨_, rfl, ?_⟩
  | refine Or.inr ⟨_, rfl, ?_⟩)
local macro_rules | `(tactic| walk_at "evd") => `(tactic| first
  | exact evd_int
  | exact evd_str
  | exact evd_non
  | exact evd_bl
  | exact evd_nil
  | (refine evd_cons ?_ (fun _ => ?_) <;> walk_at "evd")
  | (refine evd_tup ?_ (Nat.le_of_ble_eq_true rfl); walk_at "evd"))

section
variable {P : Program} {w : World} {K : PySem.W.Frag} {mg : Str → Option Value} {base : Heap}
theorem dueC_tw {b : Addr} {H H' : Hp} {v0 v1 v2 v3 : V} (t0 : Tw b H v0) (t3 : Tw b H v3) (k : But b H H') : dueC H' v0 v1 v2 v3 = dueC H v0 v1 v2 v3 := by
  unfold dueC
  rw [btw_tw t0 k, btw_tw t3 k]
theorem geI_1 {v : V} : geI 1 v = from1 v := by cases v <;> rfl
def spDue : Sp := fun vs H Q _ => ∃ (b tl : Addr) (v0 v1 v2 v3 : V), vs = [.ref tl] ∧ H tl = some (.lst [v0, v1, v2, v3]) ∧ Tw b H v0 ∧ Tw b H v1 ∧ Tw b H v2 ∧ Tw b H v3 ∧ (∀ i, v1 = .int i → i ≤ 1000) ∧ (∀ i, v2 = .int i → i ≤ 1000) ∧
  ∀ H', Same H H' → Q (dueC H v0 v1 v2 v3) H'
theorem ok_due (T : Txt K mg) : FnOk P w K mg base CX0 3 T.a__law_due T.d__law_due ["_law_told"] spDue := by
  have G__law_is_whole : FnOk P w K mg base CX0 1 T.a__law_is_whole T.d__law_is_whole ["_law_value", "_law_low"] spWholeL := ok_lwhole T
  have G__law_are_between : FnOk P w K mg base CX0 2 T.a__law_are_between T.d__law_are_between ["_law_value", "_law_low", "_law_high"] spLBtw := ok_lbtw T
  refine T.F__law_due.ok sc__law_due (fun vs H Q E h => ?_) (fun cdv A outer s H vs Q E hr h => ?_)
  · obtain ⟨b, tl, v0, v1, v2, v3, rfl, _⟩ := h
    rfl
  · obtain ⟨b, tl, v0, v1, v2, v3, rfl, htl, t0, t1, t2, t3, _, _, k⟩ := h
    have nd := sc__law_due.nd
    refine ⟨_, (pss_cons (ps_if (pt_not (pt_val (pe_call G__law_is_whole (hr.mono (by first | decide | omega)) (by rfl) T.m__law_is_whole T.k__law_is_whole T.b__law_is_whole .nil pass0 (pa_cons (pe_ix ix_list (pv 0) pe_int (fun _ _ => rfl)) (pa_cons pe_int pa_nil))))) (pss_one (ps_ret pe_str)) pss_nil)
    (pss_cons (ps_if (pt_not (pt_val (pe_call G__law_is_whole (hr.mono (by first | decide | omega)) (by rfl) T.m__law_is_whole T.k__law_is_whole T.b__law_is_whole .nil pass0 (pa_cons (pe_ix ix_list (pv 0) pe_int (fun _ _ => rfl)) (pa_cons pe_int pa_nil))))) (pss_one (ps_ret pe_str)) pss_nil)
    (pss_cons (ps_if (pt_not (pt_val (pe_call G__law_are_between (hr.mono (by first | decide | omega)) (by rfl) T.m__law_are_between T.k__law_are_between T.b__law_are_between .nil pass0 (pa_cons (pe_ix ix_list (pv 0) pe_int (fun _ _ => rfl)) (pa_cons pe_int (pa_cons (pe_op op_sub (pe_ix ix_list (pv 0) pe_int (fun _ _ => rfl)) pe_int) pa_nil)))))) (pss_one (ps_ret pe_str)) pss_nil)
    (pss_one (ps_ret (pe_ifExp (pt_val (pe_call G__law_are_between (hr.mono (by first | decide | omega)) (by rfl) T.m__law_are_between T.k__law_are_between T.b__law_are_between .nil pass0 (pa_cons (pe_ix ix_list (pv 0) pe_int (fun _ _ => rfl)) (pa_cons pe_int (pa_cons (pe_op op_sub (pe_ix ix_list (pv 0) pe_int (fun _ _ => rfl)) pe_int) pa_nil))))) pe_non pe_str)))))), ?_⟩
    refine ⟨_, rfl, _, _, _, _, rfl, rfl, SqL.of htl, rfl, b, v1, 1, rfl, t1.sh, _, rfl, ?_⟩
    rw [geI_1]
    cases h1 : from1 v1 with
    | false =>
      rw [due_start h1] at k
      exact iteT (k _ (Same.refl _))
    | true =>
    refine iteF ?_
    refine ⟨_, rfl, _, _, _, _, rfl, rfl, SqL.of htl, rfl, b, v2, 1, rfl, t2.sh, _, rfl, ?_⟩
    rw [geI_1]
    cases h2 : from1 v2 with
    | false =>
      rw [due_period h1 h2] at k
      exact iteT (k _ (Same.refl _))
    | true =>
    refine iteF ?_
    obtain ⟨q, rfl, q1⟩ := from1_int h1
    obtain ⟨p, rfl, p1⟩ := from1_int h2
    refine ⟨_, rfl, _, _, _, _, rfl, rfl, SqL.of htl, rfl, _, rfl, _, _, _, _, rfl, rfl, SqL.of htl, rfl, q, 1, rfl, rfl, b, v0, 1, q - 1, rfl, t0, fun H1 s1 => ⟨_, rfl, ?_⟩⟩
    rw [show q - 1 + 1 = q by omega]
    cases h3 : btw H 1 q v0 with
    | false =>
      rw [due_few h1 h2 h3] at k
      exact iteT (k _ s1)
    | true =>
    refine iteF ?_
    refine ⟨_, rfl, _, _, _, _, rfl, rfl, SqL.of (s1 _ _ htl), rfl, _, rfl, _, _, _, _, rfl, rfl, SqL.of (s1 _ _ htl), rfl, p, 1, rfl, rfl, b, v3, 0, p - 1, rfl, t3.but (But.of_same s1), fun H2 s2 => ⟨_, rfl, ?_⟩⟩
    rw [show p - 1 + 1 = p by omega, btw_tw t3 (But.of_same s1)]
    cases h4 : btw H 0 p v3 with
    | false =>
      rw [due_rests h1 h2 h3 h4] at k
      exact iteF (k _ (s1.trans s2))
    | true =>
      rw [due_non h1 h2 h3 h4] at k
      exact iteT (k _ (s1.trans s2))
def t_suite (K : PySem.W.Frag) (CI CR CF : Addr) : Addr → Value → Option Addr → TS := fun a cls d =>
  tAsg (tIf (tAnd (tB (tCB (rIsX K a cls d CI) (tCons (tVar 2) (tCons (tC (.ref CR)) tNil)))) (tNot (tB (tCB (rIsX K a cls d CI) (tCons (tVar 2) (tCons (tC (.ref CF)) tNil)))))) (tXf a cls d CI "word" (tVar 2)) (tC (.str "other"))) (gName 1)
def t_body (K : PySem.W.Frag) (CI CC : Addr) : WX → TS := fun W => tDrop (tMakeS CC (spInitC CI CC) (WE W) (tCons (tOp (rIxL K) (tVar 0) (tC (.int 0))) (tCons (tOp (rIxL K) (tVar 0) (tC (.int 1))) (tCons (tOp (rIxL K) (tVar 0) (tC (.int 2))) (tCons (tOp (rIxL K) (tVar 0) (tC (.int 3))) tNil)))))
theorem ok_refused (T : Txt K mg) : FnOk P w K mg base CX0 6 T.a__law_refused T.d__law_refused ["_law_told"] spDue := by
  have GI : FnOk P w K mg base (L2.CX P w) 4 T.a_Calendar___init__ T.d_Calendar___init__ ["self", "few", "start", "period", "rests"] (spInitC T.c_InvalidCalendar T.c_Calendar) := ok_init T
  refine T.F__law_refused.ok sc__law_refused (fun vs H Q E h => ?_) (fun cdv A outer s H vs Q E hr h => ?_)
  · obtain ⟨b, tl, v0, v1, v2, v3, rfl, _⟩ := h
    rfl
  · obtain ⟨b, tl, v0, v1, v2, v3, rfl, htl, t0, t1, t2, t3, m1, m2, k⟩ := h
    have nd := sc__law_refused.nd
    refine ⟨_, pss_cons (ps_set (i := 1) nd rfl (Or.inl rfl) pe_non)
      (pss_cons (ps_try_as (i := 2) (tb := t_body K T.c_InvalidCalendar T.c_Calendar) (ts := t_suite K T.c_InvalidCalendar T.c_RingError T.c_InvalidForm) (Wout := fun _ _ _ _ => False) rfl rfl nd rfl rfl ⟨rfl, by decide, Or.inl T.m_InvalidCalendar⟩ takes0
        (fun W pn xe tk _ => pss_one (ps_expr (by exact (pe_makeS T.M_Calendar GI (hr.mono (by decide)) rfl T.m_Calendar T.b_Calendar___init__ tk (by exact (pa_cons (pe_ix ix_list (pv 0) pe_int (fun _ _ => rfl)) (pa_cons (pe_ix ix_list (pv 0) pe_int (fun _ _ => rfl)) (pa_cons (pe_ix ix_list (pv 0) pe_int (fun _ _ => rfl)) (pa_cons (pe_ix ix_list (pv 0) pe_int (fun _ _ => rfl)) pa_nil)))))))))
        (fun a oe cls d pn hz hf => pss_one (ps_set (i := 1) nd rfl (Or.inl rfl) (by exact (pe_ifExp (PW.pt (pw_and (pt_val (pe_callB (call_isX T.X_InvalidCalendar hz hf) (by rfl) T.z_isinstance (by decide +kernel) (pa_cons (pv 2) (pa_cons (pe_glob rfl T.m_RingError (rel_ref _)) pa_nil))))
          (pw_and1 (pt_not (pt_val (pe_callB (call_isX T.X_InvalidCalendar hz hf) (by rfl) T.z_isinstance (by decide +kernel) (pa_cons (pv 2) (pa_cons (pe_glob rfl T.m_InvalidForm (rel_ref _)) pa_nil))))))))
          (pe_xf T.f_InvalidCalendar T.n_InvalidCalendar hz hf (pv 2)) pe_str)))))
      (pss_one (ps_ret (pv 1)))), ?_⟩
    refine ⟨_, rfl, _, _, _, _, rfl, rfl, SqL.of htl, rfl, ?_⟩
    refine ⟨_, rfl, _, _, _, _, rfl, rfl, SqL.of htl, rfl, ?_⟩
    refine ⟨_, rfl, _, _, _, _, rfl, rfl, SqL.of htl, rfl, ?_⟩
    refine ⟨_, rfl, _, _, _, _, rfl, rfl, SqL.of htl, rfl, ?_⟩
    refine fun x dx nx ndx ne => ?_
    have sm : Same H (upd (upd H dx (.own x)) x (.ins T.c_Calendar dx [])) := fun a o e => by
      rw [upd_ne (ne_of_none e nx), upd_ne (ne_of_none e ndx)]
      exact e
    have km := But.of_same (b := b) sm
    have ed : dueC (upd (upd H dx (.own x)) x (.ins T.c_Calendar dx [])) v0 v1 v2 v3 = dueC H v0 v1 v2 v3 := dueC_tw t0 t3 km
    refine ⟨x, dx, b, v0, v1, v2, v3, rfl, upd_same, t0.but km, t1.sh.but km, t2.sh.but km, t3.but km, m1, m2, fun a0 a3 fs rs q p _ _ _ _ _ _ _ _ _ _ hn F gs kF _ _ => ⟨rfl, ?_⟩, fun s hs H1 s1 d hd => ?_⟩
    · rw [ed] at hn
      rw [hn] at k
      exact ⟨_, rfl, k _ (fun a o e => kF a o (ne_of_none e nx) (sm a o e))⟩
    · rw [ed] at hs
      rw [hs] at k
      have sd := (sm.trans s1).trans (same_new (o := .xd [("word", .str s)]) hd)
      refine ⟨true, T.e_InvalidCalendar, fun _ a ha => ?_, fun q => Bool.noConfusion q⟩
      refine ⟨_, rfl, _, _, true, d, _, rfl, .own _, rfl, rfl, upd_same, T.kit_InvalidCalendar_RingError, _, rfl, iteT ?_⟩
      refine ⟨_, rfl, _, _, false, d, _, rfl, .own _, rfl, rfl, upd_same, T.kit_InvalidCalendar_InvalidForm, _, rfl, ?_⟩
      refine ifT rfl ?_
      refine ⟨_, rfl, rfl, rfl, d, _, .str s, rfl, upd_same, look1, ?_⟩
      exact ⟨_, rfl, k _ sd⟩

end
end K30
namespace K30
open PySem PySem.Spec PyProof.Rows L2 Rs
local macro_rules | `(tactic| walk_at "om") => `(tactic| first | omega | (dsimp only; omega))
local macro_rules | `(tactic| walk_at "side") => `(tactic| first | omega | (dsimp only; omega) | decide | (unfold CMul; omega) | (unfold CDiv; omega) | (unfold CPow; omega) | exact wide_div (b := 64) (by omega) (by omega) (by decide) (by decide))
local macro_rules | `(tactic| walk_at "hp") => `(tactic| first | assumption | exact upd_same)
local macro_rules | `(tactic| walk_at "sq") => `(tactic| first | assumption | exact SqL.of (by assumption) | exact SqL.of upd_same)
local macro_rules | `(tactic| walk_at "st") => `(tactic| first
  | refine ⟨_, rfl, ?_⟩
  | (refine ⟨_, _, rfl, rfl, And.intro ?side ?_⟩; (case side => walk_at "side"))
  | refine ⟨_, _, rfl, rfl, ?_⟩
  | (refine' ⟨_, _, _, _, rfl, rfl, SqL.of ?hp, ?atx, ?_⟩; (case hp => walk_at "hp"); (case atx => exact rfl))
  | (refine' ⟨_, _, _, _, rfl, rfl, ?hp, ?atx, ?_⟩; (case hp => walk_at "hp"); (case atx => exact rfl))
  | (refine' ⟨_, _, rfl, Or.inl ?sq, ?_⟩; (case sq => walk_at "sq"))
  | refine Or.inl ⟨_, rfl, ?_⟩
  | refine Or.inr ⟨_, rfl, ?_⟩)
local macro_rules | `(tactic| walk_at "evd") => `(tactic| first
  | exact evd_int
  | exact evd_str
  | exact evd_non
  | exact evd_bl
  | exact evd_nil
  | (refine evd_cons ?_ (fun _ => ?_) <;> walk_at "evd")
  | (refine evd_tup ?_ (Nat.le_of_ble_eq_true rfl); walk_at "evd"))

section
variable {P : Program} {w : World} {K : PySem.W.Frag} {mg : Str → Option Value} {base : Heap}
def spLaw (K : PySem.W.Frag) : Sp := fun vs H Q _ => ∃ (a : Addr) (ns : List Int), vs = [.ref a] ∧ SqL K H a (ns.map V.int) ∧ ns.length ≤ 63 ∧ ∀ H', Q (.bl true) H'
theorem due_repr (H : Hp) (v0 v1 v2 v3 : V) : dueC H v0 v1 v2 v3 = .non ∨ ∃ x : Str, dueC H v0 v1 v2 v3 = .str x ∧ (reprText x).length ≤ sizeLine := by
  unfold dueC
  split
  · exact .inr ⟨_, rfl, by decide +kernel⟩
  · split
    · exact .inr ⟨_, rfl, by decide +kernel⟩
    · split
      · exact .inr ⟨_, rfl, by decide +kernel⟩
      · split
        · exact .inr ⟨_, rfl, by decide +kernel⟩
        · exact .inl rfl
/-- a value that may stand among the arguments told at t -/
structure Arg (b t : Addr) (H : Hp) (v : V) : Prop where
  tw : Tw b H v
  ne : v ≠ .ref t
def Sm (v : V) : Prop := ∀ i, v = .int i → i ≤ 1000
theorem Arg.but {b t : Addr} {H H' : Hp} {v : V} (h : Arg b t H v) (k : But b H H') : Arg b t H' v := ⟨h.tw.but k, h.ne⟩
theorem Arg.set {b t : Addr} {H : Hp} {v : V} {xs ys : List V} (h : Arg b t H v) (e : H t = some (.lst xs)) : Arg b t (upd H t (.lst ys)) v := ⟨h.tw.set e h.ne, h.ne⟩
section
variable {b tl : Addr} {σ : L2.St} {H : Hp}
theorem arg_int {i : Int} : Arg b tl H (.int i) := ⟨trivial, (fun e => nomatch e)⟩
theorem arg_non : Arg b tl H .non := ⟨trivial, (fun e => nomatch e)⟩
theorem arg_bl {c : Bool} : Arg b tl H (.bl c) := ⟨trivial, (fun e => nomatch e)⟩
theorem arg_str {x : Str} : Arg b tl H (.str x) := ⟨trivial, (fun e => nomatch e)⟩
/-- a display of such a value, nothing older written -/
def EvA (b tl : Addr) (te : TE) (σ : L2.St) (H : Hp) : Prop := ∀ Q : VK, (∀ v H', Same H H' → Arg b tl H' v → Q v H') → te σ H Q
def EvAs (b tl : Addr) (n : Nat) (ta : TA) (σ : L2.St) (H : Hp) : Prop := ∀ Q : List V → Hp → Prop, (∀ vs H', Same H H' → vs.length = n → (∀ v ∈ vs, Arg b tl H' v) → Q vs H') → ta σ H Q
theorem ea_c {v : V} (h : Arg b tl H v) : EvA b tl (tC v) σ H := fun Q q => q v H (Same.refl _) h
theorem ea_m {i j : Int} : EvA b tl (tOp (rI0 fun i j => .int (i - j)) (tC (.int i)) (tC (.int j))) σ H := fun Q q => ⟨_, _, rfl, rfl, q _ _ (Same.refl _) arg_int⟩
theorem ea_ix {K : PySem.W.Frag} {xs : List V} {j : Int} {v : V} (ht : H tl = some (.lst xs)) (hσ : σ[4]? = some (some (.ref tl))) (hv : atI xs j = some v) (a : Arg b tl H v) : EvA b tl (tOp (rIxL K) (tVar 4) (tC (.int j))) σ H := fun Q q => ⟨_, hσ, _, _, _, _, rfl, rfl, SqL.of ht, hv, q v H (Same.refl _) a⟩
theorem ea_lst {ta : TA} {n : Nat} {o : HO} (hB : Box H b) (ht : H tl = some o) (hn : n ≤ 100) (h : EvAs b tl n ta σ H) : EvA b tl (tLst ta) σ H := fun Q q => h _ fun vs H1 s1 l1 a1 => ⟨szL (by omega), fun p np => q _ _ (s1.trans (same_new np))
  ⟨⟨(hB.same s1).ne_none np, vs, .inl upd_same, by omega, fun x hx => ((a1 x hx).tw.sh).but (But.of_same (same_new np))⟩, (fun e => by injection e with e; rw [e, s1 _ _ ht] at np; cases np)⟩⟩
theorem ea_tup {ta : TA} {n : Nat} {o : HO} (hB : Box H b) (ht : H tl = some o) (hn : n ≤ 100) (h : EvAs b tl n ta σ H) : EvA b tl (tTup ta) σ H := fun Q q => h _ fun vs H1 s1 l1 a1 => ⟨szL (by omega), fun p np => q _ _ (s1.trans (same_new np))
  ⟨⟨(hB.same s1).ne_none np, vs, .inr upd_same, by omega, fun x hx => ((a1 x hx).tw.sh).but (But.of_same (same_new np))⟩, (fun e => by injection e with e; rw [e, s1 _ _ ht] at np; cases np)⟩⟩
theorem eas_nil : EvAs b tl 0 tNil σ H := fun Q q => q [] H (Same.refl _) rfl (fun v h => nomatch h)
theorem eas_cons {te : TE} {ta : TA} {n : Nat} (h : EvA b tl te σ H) (k : ∀ H', Same H H' → EvAs b tl n ta σ H') : EvAs b tl (n + 1) (tCons te ta) σ H := fun Q q =>
  h _ fun v H1 s1 a1 => k H1 s1 _ fun vs H2 s2 l2 a2 => q _ _ (s1.trans s2) (by rw [List.length_cons, l2]) fun u hu => by
    rcases List.mem_cons.mp hu with e | e
    · subst e
      exact a1.but (But.of_same s2)
    · exact a2 u e
/-- the display's list itself, its things told -/
theorem els_go {ta : TA} {n : Nat} {Q : VK} (h : EvAs b tl n ta σ H) (hn : n ≤ 100) (q : ∀ vs H1 p, Same H H1 → vs.length = n → H1 p = none → (∀ v ∈ vs, Arg b tl (upd H1 p (.lst vs)) v) → Q (.ref p) (upd H1 p (.lst vs))) : tLst ta σ H Q := h _ fun vs H1 s1 l1 a1 =>
  ⟨szL (by omega), fun p np => q vs H1 p s1 l1 np fun v hv => (a1 v hv).but (But.of_same (same_new np))⟩
end
theorem ok_law (T : Txt K mg) : FnOk P w K mg base CX0 7 T.a_law T.d_law ["_law_script"] (spLaw K) := by
  have G__law_take : FnOk P w K mg base CX0 1 T.a__law_take T.d__law_take ["_law_box_here", "_law_many"] spTake := ok_take T
  have G__law_pick : FnOk P w K mg base CX0 2 T.a__law_pick T.d__law_pick ["_law_box_here", "_law_some"] spPick := ok_pick T
  have G__law_box : FnOk P w K mg base CX0 1 T.a__law_box T.d__law_box ["_law_script", "_law_k"] (spBox K) := ok_box T
  have G__law_raw : FnOk P w K mg base CX0 3 T.a__law_raw T.d__law_raw ["_law_box_here", "_law_far", "_law_wide"] spRaw := ok_raw T
  have G__law_any : FnOk P w K mg base CX0 6 T.a__law_any T.d__law_any ["_law_box_here", "_law_deep"] (spAny 3) := ok_any T 3
  have G__law_due : FnOk P w K mg base CX0 3 T.a__law_due T.d__law_due ["_law_told"] spDue := ok_due T
  have G__law_refused : FnOk P w K mg base CX0 6 T.a__law_refused T.d__law_refused ["_law_told"] spDue := ok_refused T
  refine T.F_law.ok sc_law (fun vs H Q E h => ?_) (fun cdv A outer s H vs Q E hr h => ?_)
  · obtain ⟨a, ns, rfl, _⟩ := h
    rfl
  · obtain ⟨a, ns, rfl, hS, hlen, k⟩ := h
    have nd := sc_law.nd
    refine ⟨_, (pss_cons (ps_for PassesOwn.never rfl (pi_range1 (by rfl) T.z_range (pa_cons (pe_callB (call_max2 rfl) (by rfl) T.z_max (by decide +kernel) (pa_cons pe_int (pa_cons (pe_callB (call_min2 rfl) (by rfl) T.z_min (by decide +kernel) (pa_cons pe_int (pa_cons (pe_callB call_len_seq (by rfl) T.z_len (by decide +kernel) (pa_cons (pv 0) pa_nil)) pa_nil))) pa_nil))) pa_nil)) (pg_name (i := 1) nd rfl (Or.inl rfl))
    (pss_cons (ps_set (i := 2) nd rfl (Or.inl rfl) (pe_call G__law_box (hr.mono (by first | decide | omega)) (by rfl) T.m__law_box T.k__law_box T.b__law_box .nil pass0 (pa_cons (pv 0) (pa_cons (pv 1) pa_nil))))
    (pss_one (ps_for PassesOwn.never rfl (pi_range1 (by rfl) T.z_range (pa_cons pe_int pa_nil)) (pg_name (i := 3) nd rfl (Or.inl rfl))
    (pss_cons (ps_set (i := 4) nd rfl (Or.inl rfl) (pe_callTy call_list_of (by rfl) T.z_list (by decide +kernel) (pa_cons (pe_call G__law_raw (hr.mono (by first | decide | omega)) (by rfl) T.m__law_raw T.k__law_raw T.b__law_raw .nil pass0 (pa_cons (pv 2) (pa_cons pe_int (pa_cons pe_int pa_nil)))) pa_nil)))
    (pss_cons (ps_if (pt_cmpR op_notN (pe_call G__law_refused (hr.mono (by first | decide | omega)) (by rfl) T.m__law_refused T.k__law_refused T.b__law_refused .nil pass0 (pa_cons (pv 4) pa_nil)) pe_non (nomark _)) (pss_one (ps_ret pe_bl)) pss_nil)
    (pss_cons (ps_for PassesOwn.never rfl (pi_range1 (by rfl) T.z_range (pa_cons (pe_call G__law_take (hr.mono (by first | decide | omega)) (by rfl) T.m__law_take T.k__law_take T.b__law_take .nil pass0 (pa_cons (pv 2) (pa_cons pe_int pa_nil))) pa_nil)) (pg_name (i := 5) nd rfl (Or.inl rfl))
    (pss_cons (ps_set (i := 6) nd rfl (Or.inl rfl) (pe_call G__law_take (hr.mono (by first | decide | omega)) (by rfl) T.m__law_take T.k__law_take T.b__law_take .nil pass0 (pa_cons (pv 2) (pa_cons pe_int pa_nil))))
    (pss_cons (ps_set (i := 7) nd rfl (Or.inl rfl) (pe_lst (pa_cons (pe_ix ix_list (pv 4) pe_int (fun _ _ => rfl)) (pa_cons (pe_ix ix_list (pv 4) pe_int (fun _ _ => rfl)) (pa_cons (pe_lst (pa_cons (pe_ix ix_list (pv 4) pe_int (fun _ _ => rfl)) pa_nil)) (pa_cons (pe_lst (pa_cons (pe_ix ix_list (pv 4) pe_int (fun _ _ => rfl)) pa_nil)) (pa_cons (pe_lst (pa_cons pe_int pa_nil)) (pa_cons (pe_lst (pa_cons (pe_op op_sub pe_int pe_int) pa_nil)) (pa_cons (pe_tup (pa_cons pe_int pa_nil)) pa_nil)))))))))
    (pss_cons (ps_set (i := 8) nd rfl (Or.inl rfl) (pe_lst (pa_cons (pe_call G__law_any (hr.mono (by first | decide | omega)) (by rfl) T.m__law_any T.k__law_any T.b__law_any .nil pass0 (pa_cons (pv 2) (pa_cons pe_int pa_nil))) (pa_cons pe_int (pa_cons (pe_op op_sub pe_int pe_int) (pa_cons pe_bl (pa_cons pe_non (pa_cons pe_str (pa_cons (pe_lst (pa_cons pe_bl pa_nil)) (pa_cons (pe_lst (pa_cons pe_non pa_nil)) (pa_cons (pe_lst (pa_cons (pe_lst (pa_cons pe_int pa_nil)) pa_nil)) (pa_cons (pe_tup pa_nil) (pa_cons pe_int pa_nil)))))))))))))
    (pss_cons (ps_set (i := 9) nd rfl (Or.inl rfl) (pe_call G__law_pick (hr.mono (by first | decide | omega)) (by rfl) T.m__law_pick T.k__law_pick T.b__law_pick .nil pass0 (pa_cons (pv 2) (pa_cons (pe_op op_cat (pv 8) (pv 7)) pa_nil))))
    (pss_one (ps_asg (pe_ifExp (PW.pt (pw_and (pt_val (pe_callB call_isi (by rfl) T.z_isinstance (by decide +kernel) (pa_cons (pv 9) (pa_cons (pe_bltn (v := .ty "int") (u := .type "int") (by rfl) T.z_int (by decide +kernel) (by exact rfl)) pa_nil)))) (pw_and1 (pt_cmpR op_gtI (pv 9) pe_int (nomark _))))) pe_int (pv 9)) (pg_sub (pv 4) (pv 6) set_list))))))))
    (pss_one (ps_if (pt_cmpR op_ne (pe_callB call_repr1 (by rfl) T.z_repr (by decide +kernel) (pa_cons (pe_call G__law_refused (hr.mono (by first | decide | omega)) (by rfl) T.m__law_refused T.k__law_refused T.b__law_refused .nil pass0 (pa_cons (pv 4) pa_nil)) pa_nil)) (pe_callB call_repr1 (by rfl) T.z_repr (by decide +kernel) (pa_cons (pe_call G__law_due (hr.mono (by first | decide | omega)) (by rfl) T.m__law_due T.k__law_due T.b__law_due .nil pass0 (pa_cons (pv 4) pa_nil)) pa_nil)) (nomark _)) (pss_one (ps_ret pe_bl)) pss_nil)))))))))
    (pss_one (ps_ret (pe_and (pe_cmpR op_eq (pe_call G__law_refused (hr.mono (by first | decide | omega)) (by rfl) T.m__law_refused T.k__law_refused T.b__law_refused .nil pass0 (pa_cons (pe_lst (pa_cons pe_non (pa_cons pe_int (pa_cons pe_int (pa_cons pe_non pa_nil))))) pa_nil)) pe_str (nomark _)) (pe_one (pe_cmpR op_eq (pe_call G__law_refused (hr.mono (by first | decide | omega)) (by rfl) T.m__law_refused T.k__law_refused T.b__law_refused .nil pass0 (pa_cons (pe_lst (pa_cons pe_non (pa_cons pe_int (pa_cons pe_int (pa_cons pe_non pa_nil))))) pa_nil)) pe_str (nomark _))))))), ?_⟩
    refine ⟨_, rfl, _, _, rfl, .inl hS, _, _, rfl, _, _, rfl, _, rfl, ?_, ?_, ?_⟩
    · split <;> split <;> omega
    · split <;> split <;> omega
    refine for_range (fun i σ H2 => ∃ y1 y2 y3 y4 y5 y6 y7 y8 y9, σ = [some (.ref a), y1, y2, y3, y4, y5, y6, y7, y8, y9] ∧ Same H H2)
      ⟨none, none, none, none, none, none, none, none, none, rfl, Same.refl _⟩ (fun i σ H2 hi hP => ?_) (fun σ H2 hP => ?_)
    · obtain ⟨y1, y2, y3, y4, y5, y6, y7, y8, y9, rfl, s2⟩ := hP
      have i4 : i < 1000 := by
        revert hi
        split <;> split <;> omega
      refine ⟨_, rfl, _, rfl, a, ns, _, rfl, s2.seq hS, by omega, by omega, fun H3 b s3 nb B3 => ?_⟩
      have s03 := s2.trans s3
      have nb0 : H b = none := s2.free nb
      refine ⟨10, rfl, by decide, by decide, for_range (fun j σ H4 => ∃ y3 y4 y5 y6 y7 y8 y9, σ = [some (.ref a), some (.int (0 + (i : Int))), some (.ref b), y3, y4, y5, y6, y7, y8, y9] ∧ But b H3 H4 ∧ Box H4 b)
        ⟨y3, y4, y5, y6, y7, y8, y9, rfl, But.refl _ _, B3⟩ (fun j σ H4 hj hP => ?_) (fun σ H4 hP => ?_)⟩
      · obtain ⟨y3, y4, y5, y6, y7, y8, y9, rfl, k4, B4⟩ := hP
        refine ⟨_, rfl, b, 12, 6, rfl, B4, by decide, by decide, by decide, by decide, fun t a0 a3 fs rs q p H5 ht h0 h3 n0 n3 ne0 ne3 ne03 ri B5 k5 => ?_⟩
        refine ⟨t, _, rfl, .inr (SqT.of ht), fun tl ntl => ?_⟩
        have netl : tl ≠ b := B5.ne_none ntl
        have k6 : But b H3 (upd H5 tl (.lst [.ref a0, .int q, .int p, .ref a3])) := (k4.trans k5).trans (But.of_same (same_new ntl))
        have B6 := B5.same (same_new (o := .lst [.ref a0, .int q, .int p, .ref a3]) ntl)
        have n3tl : H3 tl = none := (k4.trans k5).free netl ntl
        have htl : upd H5 tl (.lst [.ref a0, .int q, .int p, .ref a3]) tl = some (.lst [.ref a0, .int q, .int p, .ref a3]) := upd_same
        have h0' := same_new (o := .lst [.ref a0, .int q, .int p, .ref a3]) ntl _ _ h0
        have h3' := same_new (o := .lst [.ref a0, .int q, .int p, .ref a3]) ntl _ _ h3
        have e0 : a0 ≠ tl := fun e => by rw [e, ntl] at h0; cases h0
        have e3 : a3 ≠ tl := fun e => by rw [e, ntl] at h3; cases h3
        dsimp only
        generalize upd H5 tl (.lst [.ref a0, .int q, .int p, .ref a3]) = H6 at k6 B6 htl h0' h3' ⊢
        have drawnT : ∀ {zs : List Int} {z : Addr}, z ≠ b → zs.length ≤ 100 → H6 z = some (.lst (zs.map V.int)) → Tw b H6 (.ref z) := fun nz lz hz => ⟨nz, _, .inl hz, by rw [List.length_map]; exact lz, fun x hx => by
          obtain ⟨n, _, rfl⟩ := List.mem_map.mp hx
          trivial⟩
        have q1 := ri.q1
        have q2 := ri.q2
        have p1 := ri.p1
        have p2 := ri.p2
        have A0 : Arg b tl H6 (.ref a0) := ⟨drawnT ne0 ri.f1 h0', (fun e => e0 (by injection e))⟩
        have A1 : Arg b tl H6 (.int q) := ⟨trivial, (fun e => nomatch e)⟩
        have A2 : Arg b tl H6 (.int p) := ⟨trivial, (fun e => nomatch e)⟩
        have A3 : Arg b tl H6 (.ref a3) := ⟨drawnT ne3 ri.r1 h3', (fun e => e3 (by injection e))⟩
        have S1 : Sm (.int q) := fun i e => by injection e with e; omega
        have S2 : Sm (.int p) := fun i e => by injection e with e; omega
        have S0 : ∀ {y : Addr}, Sm (.ref y) := fun i e => nomatch e
        have allb : ∀ {zs : List Int} {lo hi : Int}, (∀ n ∈ zs, lo ≤ n ∧ n < hi) → (zs.map V.int).all (inB lo hi) = true := fun h => by
          rw [List.all_eq_true]
          intro x hx
          obtain ⟨n, hn, rfl⟩ := List.mem_map.mp hx
          have := h n hn
          simp [inB, this.1, this.2]
        have hdue : dueC H6 (.ref a0) (.int q) (.int p) (.ref a3) = .non := due_non (decide_eq_true q1) (decide_eq_true p1) (by rw [btw_seq (seqV_lst h0')]; exact allb ri.f2) (by rw [btw_seq (seqV_lst h3')]; exact allb ri.r2)
        refine ⟨_, rfl, b, tl, _, _, _, _, rfl, htl, A0.tw, A1.tw, A2.tw, A3.tw, S1, S2, fun H7 s7 => ?_⟩
        rw [hdue]
        refine ⟨rfl, _, rfl, ifF rfl ?_⟩
        have k7 := But.of_same (b := b) s7
        refine ⟨_, rfl, b, 3, rfl, B6.same s7, by decide, by decide, fun m H8 m0 m1 B8 k8 => ?_⟩
        refine ⟨m, rfl, by omega, by omega, for_range (fun x σ H9 => ∃ y5 y6 y7 y8 y9 v0 v1 v2 v3, σ = [some (.ref a), some (.int (0 + (i : Int))), some (.ref b), some (.int (0 + (j : Int))), some (.ref tl), y5, y6, y7, y8, y9] ∧ But b H3 H9 ∧ Box H9 b ∧ H9 tl = some (.lst [v0, v1, v2, v3]) ∧ Arg b tl H9 v0 ∧ Arg b tl H9 v1 ∧ Arg b tl H9 v2 ∧ Arg b tl H9 v3 ∧ Sm v0 ∧ Sm v1 ∧ Sm v2 ∧ Sm v3)
          ⟨y5, y6, y7, y8, y9, _, _, _, _, rfl, (k6.trans k7).trans k8, B8, k8 _ _ netl (s7 _ _ htl), A0.but (k7.trans k8), A1.but (k7.trans k8), A2.but (k7.trans k8), A3.but (k7.trans k8), S0, S1, S2, S0⟩ (fun x σ H9 hx hP => ?_) (fun σ H9 hP => ?_)⟩
        · obtain ⟨y5, y6, y7, y8, y9, v0, v1, v2, v3, rfl, k9, B9, htl9, V0, V1, V2, V3, M0, M1, M2, M3⟩ := hP
          refine ⟨_, rfl, b, 4, rfl, B9, by decide, by decide, fun r H10 r0 r1 B10 k10 => ?_⟩
          have htl10 := k10 _ _ netl htl9
          have W1 := V1.but k10
          have W2 := V2.but k10
          have at1 : atI [v0, v1, v2, v3] 1 = some v1 := rfl
          have at2 : atI [v0, v1, v2, v3] 2 = some v2 := rfl
          dsimp only [gName]
          refine asg_go (els_go (b := b) (tl := tl) (n := 7) (eas_cons (ea_ix htl10 rfl at1 W1) fun Ha sa => eas_cons (ea_ix (sa _ _ htl10) rfl at2 (W2.but (But.of_same sa))) fun Hb sb => ?_) (by decide) fun es H11 pe s11 le np hes => ?_)
          · have sab := sa.trans sb
            refine eas_cons (ea_lst (B10.same sab) (sab _ _ htl10) (n := 1) (by decide) (eas_cons (ea_ix (sab _ _ htl10) rfl at1 (W1.but (But.of_same sab))) fun _ _ => eas_nil)) fun Hc sc => ?_
            have sac := sab.trans sc
            refine eas_cons (ea_lst (B10.same sac) (sac _ _ htl10) (n := 1) (by decide) (eas_cons (ea_ix (sac _ _ htl10) rfl at2 (W2.but (But.of_same sac))) fun _ _ => eas_nil)) fun Hd sd => ?_
            have sad := sac.trans sd
            refine eas_cons (ea_lst (B10.same sad) (sad _ _ htl10) (n := 1) (by decide) (eas_cons (ea_c arg_int) fun _ _ => eas_nil)) fun He se => ?_
            have sae := sad.trans se
            refine eas_cons (ea_lst (B10.same sae) (sae _ _ htl10) (n := 1) (by decide) (eas_cons ea_m fun _ _ => eas_nil)) fun Hf sf => ?_
            have saf := sae.trans sf
            exact eas_cons (ea_tup (B10.same saf) (saf _ _ htl10) (n := 1) (by decide) (eas_cons (ea_c arg_int) fun _ _ => eas_nil)) fun _ _ => eas_nil
          have s11' := s11.trans (same_new (o := .lst es) np)
          have B11 := B10.same s11'
          have htl11 := s11' _ _ htl10
          have hes1 : upd H11 pe (.lst es) pe = some (.lst es) := upd_same
          have nepe : pe ≠ b := (B10.same s11).ne_none np
          dsimp only [gName]
          generalize upd H11 pe (.lst es) = H12 at s11' B11 htl11 hes1 hes ⊢
          refine ⟨_, rfl, b, rfl, B11, fun v H13 tv nv B13 k13 => ?_⟩
          have AV : Arg b tl H13 v := ⟨tv, nv.ne htl11⟩
          have htl13 := k13 _ _ netl htl11
          have rest : EvAs b tl 10 (tCons (tC (V.int 0)) (tCons (tOp (rI0 fun i j => V.int (i - j)) (tC (V.int 0)) (tC (V.int 1))) (tCons (tC (V.bl true)) (tCons (tC V.non) (tCons (tC (V.str (Str.ofString "1"))) (tCons (tLst (tCons (tC (V.bl true)) tNil)) (tCons (tLst (tCons (tC V.non) tNil)) (tCons (tLst (tCons (tLst (tCons (tC (V.int 1)) tNil)) tNil)) (tCons (tTup tNil) (tCons (tC (V.int 1)) tNil))))))))))
              ((([some (V.ref a), some (V.int (0 + (i : Int))), some (V.ref b), some (V.int (0 + (j : Int))), some (V.ref tl), y5, y6, y7, y8, y9].set 5 (some (V.int (0 + (x : Int))))).set 6 (some (V.int r))).set 7 (some (V.ref pe))) H13 := by
            refine eas_cons (ea_c arg_int) fun Ha sa => eas_cons ea_m fun Hb sb => eas_cons (ea_c arg_bl) fun Hc sc => eas_cons (ea_c arg_non) fun Hd sd => eas_cons (ea_c arg_str) fun He se => ?_
            have sae := (((sa.trans sb).trans sc).trans sd).trans se
            refine eas_cons (ea_lst (B13.same sae) (sae _ _ htl13) (n := 1) (by decide) (eas_cons (ea_c arg_bl) fun _ _ => eas_nil)) fun Hf sf => ?_
            have saf := sae.trans sf
            refine eas_cons (ea_lst (B13.same saf) (saf _ _ htl13) (n := 1) (by decide) (eas_cons (ea_c arg_non) fun _ _ => eas_nil)) fun Hg sg => ?_
            have sag := saf.trans sg
            refine eas_cons (ea_lst (B13.same sag) (sag _ _ htl13) (n := 1) (by decide) (eas_cons (ea_lst (B13.same sag) (sag _ _ htl13) (n := 1) (by decide) (eas_cons (ea_c arg_int) fun _ _ => eas_nil)) fun _ _ => eas_nil)) fun Hh sh => ?_
            have sah := sag.trans sh
            exact eas_cons (ea_tup (B13.same sah) (sah _ _ htl13) (n := 0) (by decide) eas_nil) fun _ _ => eas_cons (ea_c arg_int) fun _ _ => eas_nil
          refine rest _ fun us H14 s14 l14 hus => ⟨szL (by rw [List.length_cons, l14]; decide), fun L nL => ?_⟩
          have s15 := s14.trans (same_new (o := .lst (v :: us)) nL)
          have hL : upd H14 L (.lst (v :: us)) L = some (.lst (v :: us)) := upd_same
          have neL : L ≠ pe := ne_of_none' (s14 _ _ (k13 _ _ nepe hes1)) nL
          have hodd : ∀ u ∈ v :: us, Arg b tl (upd H14 L (.lst (v :: us))) u := fun u hu => by
            rcases List.mem_cons.mp hu with e | e
            · subst e
              exact AV.but (But.of_same s15)
            · exact (hus u e).but (But.of_same (same_new nL))
          generalize upd H14 L (.lst (v :: us)) = H15 at s15 hL hodd ⊢
          have k15 := k13.trans (But.of_same (b := b) s15)
          refine ⟨_, rfl, _, rfl, _, rfl, L, pe, _, _, rfl, rfl, hL, k15 _ _ nepe hes1, by rw [List.length_cons, l14, le]; decide, fun L2 nL2 => ?_⟩
          have B15 := B13.same s15
          have lall : ((v :: us) ++ es).length = 18 := by rw [List.length_append, List.length_cons, l14, le]
          refine ⟨b, L2, _, rfl, B15.same (same_new nL2), B15.ne_none nL2, upd_same, by rw [lall]; decide, by rw [lall]; decide, fun u H17 hu B17 k17 => ?_⟩
          have k17' := (But.of_same (b := b) (same_new (o := .lst ((v :: us) ++ es)) nL2)).trans k17
          have AU : Arg b tl H17 u := by
            rcases List.mem_append.mp hu with e | e
            · exact (hodd u e).but k17'
            · exact (hes u e).but (k15.trans k17')
          have kk : But b H9 H17 := ((k10.trans (But.of_same s11')).trans k15).trans k17'
          have htl17 := kk _ _ netl htl9
          have U0 := V0.but kk
          have U1 := V1.but kk
          have U2 := V2.but kk
          have U3 := V3.but kk
          have ix : ixN [v0, v1, v2, v3].length r = some r.toNat := by
            show (if 0 ≤ r then (if r < ((4 : Nat) : Int) then some r.toNat else none) else _) = some r.toNat
            rw [if_pos r0, if_pos (show r < ((4 : Nat) : Int) from r1)]
          have fin : ∀ z : V, Arg b tl H17 z → Sm z → ∃ y5' y6' y7' y8' y9' w0 w1 w2 w3, ((((([some (V.ref a), some (V.int (0 + (i : Int))), some (V.ref b), some (V.int (0 + (j : Int))), some (V.ref tl), y5, y6, y7, y8, y9].set 5 (some (V.int (0 + (x : Int))))).set 6 (some (V.int r))).set 7 (some (V.ref pe))).set 8 (some (V.ref L))).set 9 (some u)) = [some (V.ref a), some (V.int (0 + (i : Int))), some (V.ref b), some (V.int (0 + (j : Int))), some (V.ref tl), y5', y6', y7', y8', y9'] ∧
              But b H3 (upd H17 tl (.lst ([v0, v1, v2, v3].set r.toNat z))) ∧ Box (upd H17 tl (.lst ([v0, v1, v2, v3].set r.toNat z))) b ∧ upd H17 tl (.lst ([v0, v1, v2, v3].set r.toNat z)) tl = some (.lst [w0, w1, w2, w3]) ∧
              Arg b tl (upd H17 tl (.lst ([v0, v1, v2, v3].set r.toNat z))) w0 ∧ Arg b tl (upd H17 tl (.lst ([v0, v1, v2, v3].set r.toNat z))) w1 ∧ Arg b tl (upd H17 tl (.lst ([v0, v1, v2, v3].set r.toNat z))) w2 ∧ Arg b tl (upd H17 tl (.lst ([v0, v1, v2, v3].set r.toNat z))) w3 ∧ Sm w0 ∧ Sm w1 ∧ Sm w2 ∧ Sm w3 := fun z az mz => by
            have kn := but_new (o := .lst ([v0, v1, v2, v3].set r.toNat z)) (k9.trans kk) n3tl
            have Bn := box_ne (o := .lst ([v0, v1, v2, v3].set r.toNat z)) B17 netl
            have Z := az.set (ys := [v0, v1, v2, v3].set r.toNat z) htl17
            have Z0 := U0.set (ys := [v0, v1, v2, v3].set r.toNat z) htl17
            have Z1 := U1.set (ys := [v0, v1, v2, v3].set r.toNat z) htl17
            have Z2 := U2.set (ys := [v0, v1, v2, v3].set r.toNat z) htl17
            have Z3 := U3.set (ys := [v0, v1, v2, v3].set r.toNat z) htl17
            rcases (show r = 0 ∨ r = 1 ∨ r = 2 ∨ r = 3 by omega) with rfl | rfl | rfl | rfl
            · exact ⟨_, _, _, _, _, z, v1, v2, v3, rfl, kn, Bn, upd_same, Z, Z1, Z2, Z3, mz, M1, M2, M3⟩
            · exact ⟨_, _, _, _, _, v0, z, v2, v3, rfl, kn, Bn, upd_same, Z0, Z, Z2, Z3, M0, mz, M2, M3⟩
            · exact ⟨_, _, _, _, _, v0, v1, z, v3, rfl, kn, Bn, upd_same, Z0, Z1, Z, Z3, M0, M1, mz, M3⟩
            · exact ⟨_, _, _, _, _, v0, v1, v2, z, rfl, kn, Bn, upd_same, Z0, Z1, Z2, Z, M0, M1, M2, mz⟩
          obtain ⟨tu, tyu, ki, _⟩ := AU.tw.sh.ty (K := K)
          refine ⟨_, rfl, _, _, _, _, _, rfl, .ty _, tyu, kit_ty ki, _, rfl, ?_⟩
          cases u with
          | int n =>
            refine ifT rfl ⟨_, rfl, 20, rfl, .inl ⟨n, rfl⟩, _, rfl, ifB (fun g => ?_) (fun g => ?_)⟩
            · exact ⟨_, rfl, _, rfl, tl, _, r, _, rfl, rfl, htl17, ix, fin (.int 20) arg_int (fun i e => by injection e with e; omega)⟩
            · have g : ¬ 20 < n := of_decide_eq_false g
              exact ⟨_, rfl, _, rfl, _, rfl, tl, _, r, _, rfl, rfl, htl17, ix, fin _ AU (fun i e => by injection e with e; omega)⟩
          | bl c =>
            refine ifT rfl ⟨_, rfl, 20, rfl, .inr ⟨c, rfl⟩, _, rfl, ifB (fun g => ?_) (fun g => ?_)⟩
            · exact ⟨_, rfl, _, rfl, tl, _, r, _, rfl, rfl, htl17, ix, fin (.int 20) arg_int (fun i e => by injection e with e; omega)⟩
            · exact ⟨_, rfl, _, rfl, _, rfl, tl, _, r, _, rfl, rfl, htl17, ix, fin _ AU (fun i e => nomatch e)⟩
          | non => exact ifF rfl (ifF rfl ⟨_, rfl, _, rfl, _, rfl, tl, _, r, _, rfl, rfl, htl17, ix, fin _ AU (fun i e => nomatch e)⟩)
          | str _ => exact ifF rfl (ifF rfl ⟨_, rfl, _, rfl, _, rfl, tl, _, r, _, rfl, rfl, htl17, ix, fin _ AU (fun i e => nomatch e)⟩)
          | ref _ => exact ifF rfl (ifF rfl ⟨_, rfl, _, rfl, _, rfl, tl, _, r, _, rfl, rfl, htl17, ix, fin _ AU (fun i e => nomatch e)⟩)
          | byt _ => exact AU.tw.elim
          | flt _ => exact AU.tw.elim
          | ty _ => exact AU.tw.elim
        · obtain ⟨y5, y6, y7, y8, y9, v0, v1, v2, v3, rfl, k9, B9, htl9, V0, V1, V2, V3, M0, M1, M2, M3⟩ := hP
          refine ⟨_, rfl, b, tl, v0, v1, v2, v3, rfl, htl9, V0.tw, V1.tw, V2.tw, V3.tw, M1, M2, fun H10 s10 => ?_⟩
          refine ⟨_, rfl, due_repr H9 v0 v1 v2 v3, ?_⟩
          have k10 := But.of_same (b := b) s10
          refine ⟨_, rfl, b, tl, v0, v1, v2, v3, rfl, s10 _ _ htl9, V0.tw.but k10, V1.tw.but k10, V2.tw.but k10, V3.tw.but k10, M1, M2, fun H11 s11 => ?_⟩
          rw [dueC_tw V0.tw V3.tw k10]
          refine ⟨_, rfl, due_repr H9 v0 v1 v2 v3, ?_⟩
          refine ⟨rfl, _, rfl, ifF (by simp) ?_⟩
          exact ⟨_, _, _, _, _, _, _, rfl, (k9.trans k10).trans (But.of_same s11), (B9.same s10).same s11⟩
      · obtain ⟨y3, y4, y5, y6, y7, y8, y9, rfl, k4, B4⟩ := hP
        exact ⟨_, _, _, _, _, _, _, _, _, rfl, same_but s03 k4 nb0⟩
    · obtain ⟨y1, y2, y3, y4, y5, y6, y7, y8, y9, rfl, s2⟩ := hP
      refine ⟨szL (Nat.le_of_ble_eq_true rfl), fun q1 nq1 => ?_⟩
      refine ⟨q1, q1, .non, .int 0, .int 0, .non, rfl, upd_same, trivial, trivial, trivial, trivial, (fun i e => by injection e with e; omega), (fun i e => by injection e with e; omega), fun H3 s3 => ?_⟩
      refine ⟨rfl, _, rfl, ifT (decide_eq_true rfl) ?_⟩
      refine ⟨szL (Nat.le_of_ble_eq_true rfl), fun q2 nq2 => ?_⟩
      refine ⟨q2, q2, .non, .int 1, .int 0, .non, rfl, upd_same, trivial, trivial, trivial, trivial, (fun i e => by injection e with e; omega), (fun i e => by injection e with e; omega), fun H4 s4 => ?_⟩
      refine ⟨rfl, ?_⟩
      exact k _

end
theorem all_mk {l : PySem.W.OpenLaw} {w : World} {K : PySem.W.Frag} {h : Heap} {mg : Str → Option Value} {fa : Addr} (X : K.In h) (G : h.Ns mainGlobals mg) (hfa : mg "law" = some (.ref fa))
    {C_RingError : Addr} (aC_RingError : PySem.W.nsIn K mainGlobals "RingError" = some (some (.ref C_RingError)))
    {C_InvalidForm : Addr} (aC_InvalidForm : PySem.W.nsIn K mainGlobals "InvalidForm" = some (some (.ref C_InvalidForm)))
    {nm_InvalidForm q_InvalidForm : Str} {N_InvalidForm : Addr} {bs_InvalidForm : List Value} {sn_InvalidForm : List Str} {sub_InvalidForm : List Value} {ab_InvalidForm : Bool} {col_InvalidForm : Option Bool} {dd_InvalidForm : Option Addr} {m0_InvalidForm m1_InvalidForm m2_InvalidForm m3_InvalidForm m5_InvalidForm : Option Value}
    (xL_InvalidForm : K.lookup C_InvalidForm = some (excClassObj nm_InvalidForm q_InvalidForm C_InvalidForm N_InvalidForm bs_InvalidForm [.ref C_RingError, .type "ValueError", .type "Exception", .type "BaseException", .type "object"] true sn_InvalidForm sub_InvalidForm ab_InvalidForm col_InvalidForm dd_InvalidForm m0_InvalidForm m1_InvalidForm m2_InvalidForm m3_InvalidForm m5_InvalidForm "ValueError.__new__"))
    (sa_InvalidForm : PySem.W.findIn K (.ref C_InvalidForm) "__setattr__" = some (some (.builtin "object.__setattr__")))
    (ga_InvalidForm : PySem.W.findIn K (.ref C_InvalidForm) "__getattribute__" = some (some (.builtin "BaseException.__getattribute__")))
    (gg_InvalidForm : PySem.W.findIn K (.ref C_InvalidForm) "__getattr__" = some none)
    (nw_InvalidForm : PySem.W.findIn K (.ref C_InvalidForm) "word" = some none)
    (ca_InvalidForm : PySem.W.findIn K (.ref C_InvalidForm) "__class__" = some (some (.builtin "object.__class__")))
    (kC_InvalidForm : PySem.W.keepIn K (.ref C_InvalidForm) = true)
    (eC_InvalidForm : PySem.W.subIn K (.ref C_InvalidForm) (.type "BaseException") = some true)
    (tC_InvalidForm : PySem.W.typeIn K (.ref C_InvalidForm) = some (.type "type"))
    (hC_InvalidForm : PySem.W.hasDictIn K C_InvalidForm = true)
    (sC_InvalidForm : PySem.W.subIn K (.ref C_InvalidForm) (.ref C_InvalidForm) = some true)
    (mo_InvalidForm : PySem.W.mroIn K C_InvalidForm (.type "object") = some true)
    (cl_InvalidForm : (PySem.W.clsIn K C_InvalidForm).isSome = true)
    {f0 : Addr} {od0 an0 : Option Addr} {sl0 : Array (Option Value)} {oc0 kV0 dc0 pm0 cd0 ct0 : Value}
    (l0 : K.lookup f0 = some ⟨oc0, od0, .func (PySem.W.fnOf "__init__" "InvalidForm.__init__" (defArgs s_InvalidForm___init__) (defBody s_InvalidForm___init__) (defScope s_InvalidForm___init__) .none kV0 dc0 pm0 an0 cd0 ct0), sl0⟩) (c0 : PySem.W.codeIn K cd0 "InvalidForm.__init__" = true) (k0 : PySem.W.keepIn K (.ref f0) = true)
    (iC_InvalidForm : PySem.W.findIn K (.ref C_InvalidForm) "__init__" = some (some (.ref f0))) (iT_InvalidForm : PySem.W.typeIn K (.ref f0) = some (.type "function"))
    {C_InvalidCalendar : Addr} (aC_InvalidCalendar : PySem.W.nsIn K mainGlobals "InvalidCalendar" = some (some (.ref C_InvalidCalendar)))
    {nm_InvalidCalendar q_InvalidCalendar : Str} {N_InvalidCalendar : Addr} {bs_InvalidCalendar : List Value} {sn_InvalidCalendar : List Str} {sub_InvalidCalendar : List Value} {ab_InvalidCalendar : Bool} {col_InvalidCalendar : Option Bool} {dd_InvalidCalendar : Option Addr} {m0_InvalidCalendar m1_InvalidCalendar m2_InvalidCalendar m3_InvalidCalendar m5_InvalidCalendar : Option Value}
    (xL_InvalidCalendar : K.lookup C_InvalidCalendar = some (excClassObj nm_InvalidCalendar q_InvalidCalendar C_InvalidCalendar N_InvalidCalendar bs_InvalidCalendar [.ref C_RingError, .type "ValueError", .type "Exception", .type "BaseException", .type "object"] true sn_InvalidCalendar sub_InvalidCalendar ab_InvalidCalendar col_InvalidCalendar dd_InvalidCalendar m0_InvalidCalendar m1_InvalidCalendar m2_InvalidCalendar m3_InvalidCalendar m5_InvalidCalendar "ValueError.__new__"))
    (sa_InvalidCalendar : PySem.W.findIn K (.ref C_InvalidCalendar) "__setattr__" = some (some (.builtin "object.__setattr__")))
    (ga_InvalidCalendar : PySem.W.findIn K (.ref C_InvalidCalendar) "__getattribute__" = some (some (.builtin "BaseException.__getattribute__")))
    (gg_InvalidCalendar : PySem.W.findIn K (.ref C_InvalidCalendar) "__getattr__" = some none)
    (nw_InvalidCalendar : PySem.W.findIn K (.ref C_InvalidCalendar) "word" = some none)
    (ca_InvalidCalendar : PySem.W.findIn K (.ref C_InvalidCalendar) "__class__" = some (some (.builtin "object.__class__")))
    (kC_InvalidCalendar : PySem.W.keepIn K (.ref C_InvalidCalendar) = true)
    (eC_InvalidCalendar : PySem.W.subIn K (.ref C_InvalidCalendar) (.type "BaseException") = some true)
    (tC_InvalidCalendar : PySem.W.typeIn K (.ref C_InvalidCalendar) = some (.type "type"))
    (hC_InvalidCalendar : PySem.W.hasDictIn K C_InvalidCalendar = true)
    (sC_InvalidCalendar : PySem.W.subIn K (.ref C_InvalidCalendar) (.ref C_InvalidCalendar) = some true)
    (mo_InvalidCalendar : PySem.W.mroIn K C_InvalidCalendar (.type "object") = some true)
    (cl_InvalidCalendar : (PySem.W.clsIn K C_InvalidCalendar).isSome = true)
    {f1 : Addr} {od1 an1 : Option Addr} {sl1 : Array (Option Value)} {oc1 kV1 dc1 pm1 cd1 ct1 : Value}
    (l1 : K.lookup f1 = some ⟨oc1, od1, .func (PySem.W.fnOf "__init__" "InvalidCalendar.__init__" (defArgs s_InvalidCalendar___init__) (defBody s_InvalidCalendar___init__) (defScope s_InvalidCalendar___init__) .none kV1 dc1 pm1 an1 cd1 ct1), sl1⟩) (c1 : PySem.W.codeIn K cd1 "InvalidCalendar.__init__" = true) (k1 : PySem.W.keepIn K (.ref f1) = true)
    (iC_InvalidCalendar : PySem.W.findIn K (.ref C_InvalidCalendar) "__init__" = some (some (.ref f1))) (iT_InvalidCalendar : PySem.W.typeIn K (.ref f1) = some (.type "function"))
    {C_Calendar : Addr} (aC_Calendar : PySem.W.nsIn K mainGlobals "Calendar" = some (some (.ref C_Calendar)))
    (pg_Calendar : PySem.W.plainGet K C_Calendar Str.empty = true)
    (hd_Calendar : PySem.W.hasDictIn K C_Calendar = true)
    (po_Calendar : PySem.W.plainOver K C_Calendar = true)
    (sa_Calendar : PySem.W.findIn K (.ref C_Calendar) "__setattr__" = some (some (.builtin "object.__setattr__")))
    (mk_Calendar : PySem.W.makesIn K C_Calendar = true)
    (kc_Calendar : PySem.W.keepIn K (.ref C_Calendar) = true)
    (n_period_Calendar : PySem.W.findIn K (.ref C_Calendar) "period" = some none)
    (n_rests_Calendar : PySem.W.findIn K (.ref C_Calendar) "rests" = some none)
    (n_start_Calendar : PySem.W.findIn K (.ref C_Calendar) "start" = some none)
    (n_few_Calendar : PySem.W.findIn K (.ref C_Calendar) "few" = some none)
    {f2 : Addr} {od2 an2 : Option Addr} {sl2 : Array (Option Value)} {oc2 kV2 dc2 pm2 cd2 ct2 : Value}
    {T2 : Addr} {dd2 : Option Addr} {dn2 : Nat} {dsl2 : Array (Option Value)} {eD_Calendar___init___0 : Addr} {t2_1 : Tok} {t2_2 : Tok} {eD_Calendar___init___3 : Addr}
    (t2 : K.lookup T2 = some ⟨.type "tuple", dd2, .seq [Value.ref eD_Calendar___init___0, Value.int 1 t2_1, Value.int 1 t2_2, Value.ref eD_Calendar___init___3].toArray dn2, dsl2⟩)
    (l2 : K.lookup f2 = some ⟨oc2, od2, .func (PySem.W.fnOf "__init__" "Calendar.__init__" (defArgs s_Calendar___init__) (defBody s_Calendar___init__) (defScope s_Calendar___init__) (.ref T2) kV2 dc2 pm2 an2 cd2 ct2), sl2⟩) (c2 : PySem.W.codeIn K cd2 "Calendar.__init__" = true) (k2 : PySem.W.keepIn K (.ref f2) = true)
    (a2 : PySem.W.findIn K (.ref C_Calendar) "__init__" = some (some (.ref f2))) (i2 : PySem.W.isFn K (.ref f2) = true)
    (spec : PySem.W.specialIn K (.builtin "object.__class__") "__get__" = some (some (.builtin "getset_descriptor.__get__"))) (takes : PySem.W.takesIn K (.builtin "object.__class__") = some true)
    (kit_InvalidCalendar_RingError : PySem.W.kitOne K (.ref C_InvalidCalendar) (.ref C_RingError) = some true)
    (kit_InvalidCalendar_InvalidForm : PySem.W.kitOne K (.ref C_InvalidCalendar) (.ref C_InvalidForm) = some false)
    {f3 : Addr} {od3 an3 : Option Addr} {sl3 : Array (Option Value)} {oc3 kV3 dc3 pm3 cd3 ct3 : Value}
    (l3 : K.lookup f3 = some ⟨oc3, od3, .func (PySem.W.fnOf "is_whole" "is_whole" (defArgs s_is_whole) (defBody s_is_whole) (defScope s_is_whole) .none kV3 dc3 pm3 an3 cd3 ct3), sl3⟩) (c3 : PySem.W.codeIn K cd3 "is_whole" = true) (k3 : PySem.W.keepIn K (.ref f3) = true)
    (a3 : PySem.W.nsIn K mainGlobals "is_whole" = some (some (.ref f3)))
    {f4 : Addr} {od4 an4 : Option Addr} {sl4 : Array (Option Value)} {oc4 kV4 dc4 pm4 cd4 ct4 : Value}
    (l4 : K.lookup f4 = some ⟨oc4, od4, .func (PySem.W.fnOf "is_sequence" "is_sequence" (defArgs s_is_sequence) (defBody s_is_sequence) (defScope s_is_sequence) .none kV4 dc4 pm4 an4 cd4 ct4), sl4⟩) (c4 : PySem.W.codeIn K cd4 "is_sequence" = true) (k4 : PySem.W.keepIn K (.ref f4) = true)
    (a4 : PySem.W.nsIn K mainGlobals "is_sequence" = some (some (.ref f4)))
    {f5 : Addr} {od5 an5 : Option Addr} {sl5 : Array (Option Value)} {oc5 kV5 dc5 pm5 cd5 ct5 : Value}
    (l5 : K.lookup f5 = some ⟨oc5, od5, .func (PySem.W.fnOf "_is_from_1" "_is_from_1" (defArgs s__is_from_1) (defBody s__is_from_1) (defScope s__is_from_1) .none kV5 dc5 pm5 an5 cd5 ct5), sl5⟩) (c5 : PySem.W.codeIn K cd5 "_is_from_1" = true) (k5 : PySem.W.keepIn K (.ref f5) = true)
    (a5 : PySem.W.nsIn K mainGlobals "_is_from_1" = some (some (.ref f5)))
    {f6 : Addr} {od6 an6 : Option Addr} {sl6 : Array (Option Value)} {oc6 kV6 dc6 pm6 cd6 ct6 : Value}
    (l6 : K.lookup f6 = some ⟨oc6, od6, .func (PySem.W.fnOf "_are_between" "_are_between" (defArgs s__are_between) (defBody s__are_between) (defScope s__are_between) .none kV6 dc6 pm6 an6 cd6 ct6), sl6⟩) (c6 : PySem.W.codeIn K cd6 "_are_between" = true) (k6 : PySem.W.keepIn K (.ref f6) = true)
    (a6 : PySem.W.nsIn K mainGlobals "_are_between" = some (some (.ref f6)))
    {f7 : Addr} {od7 an7 : Option Addr} {sl7 : Array (Option Value)} {oc7 kV7 dc7 pm7 cd7 ct7 : Value}
    (l7 : K.lookup f7 = some ⟨oc7, od7, .func (PySem.W.fnOf "_ascending" "_ascending" (defArgs s__ascending) (defBody s__ascending) (defScope s__ascending) .none kV7 dc7 pm7 an7 cd7 ct7), sl7⟩) (c7 : PySem.W.codeIn K cd7 "_ascending" = true) (k7 : PySem.W.keepIn K (.ref f7) = true)
    (a7 : PySem.W.nsIn K mainGlobals "_ascending" = some (some (.ref f7)))
    {f8 : Addr} {od8 an8 : Option Addr} {sl8 : Array (Option Value)} {oc8 kV8 dc8 pm8 cd8 ct8 : Value}
    (l8 : K.lookup f8 = some ⟨oc8, od8, .func (PySem.W.fnOf "_least_period" "_least_period" (defArgs s__least_period) (defBody s__least_period) (defScope s__least_period) .none kV8 dc8 pm8 an8 cd8 ct8), sl8⟩) (c8 : PySem.W.codeIn K cd8 "_least_period" = true) (k8 : PySem.W.keepIn K (.ref f8) = true)
    (a8 : PySem.W.nsIn K mainGlobals "_least_period" = some (some (.ref f8)))
    {f9 : Addr} {od9 an9 : Option Addr} {sl9 : Array (Option Value)} {oc9 kV9 dc9 pm9 cd9 ct9 : Value}
    (l9 : K.lookup f9 = some ⟨oc9, od9, .func (PySem.W.fnOf "_least_start" "_least_start" (defArgs s__least_start) (defBody s__least_start) (defScope s__least_start) .none kV9 dc9 pm9 an9 cd9 ct9), sl9⟩) (c9 : PySem.W.codeIn K cd9 "_least_start" = true) (k9 : PySem.W.keepIn K (.ref f9) = true)
    (a9 : PySem.W.nsIn K mainGlobals "_least_start" = some (some (.ref f9)))
    {f10 : Addr} {od10 an10 : Option Addr} {sl10 : Array (Option Value)} {oc10 kV10 dc10 pm10 cd10 ct10 : Value}
    (l10 : K.lookup f10 = some ⟨oc10, od10, .func (PySem.W.fnOf "_law_box" "_law_box" (defArgs s__law_box) (defBody s__law_box) (defScope s__law_box) .none kV10 dc10 pm10 an10 cd10 ct10), sl10⟩) (c10 : PySem.W.codeIn K cd10 "_law_box" = true) (k10 : PySem.W.keepIn K (.ref f10) = true)
    (a10 : PySem.W.nsIn K mainGlobals "_law_box" = some (some (.ref f10)))
    {f11 : Addr} {od11 an11 : Option Addr} {sl11 : Array (Option Value)} {oc11 kV11 dc11 pm11 cd11 ct11 : Value}
    (l11 : K.lookup f11 = some ⟨oc11, od11, .func (PySem.W.fnOf "_law_take" "_law_take" (defArgs s__law_take) (defBody s__law_take) (defScope s__law_take) .none kV11 dc11 pm11 an11 cd11 ct11), sl11⟩) (c11 : PySem.W.codeIn K cd11 "_law_take" = true) (k11 : PySem.W.keepIn K (.ref f11) = true)
    (a11 : PySem.W.nsIn K mainGlobals "_law_take" = some (some (.ref f11)))
    {f12 : Addr} {od12 an12 : Option Addr} {sl12 : Array (Option Value)} {oc12 kV12 dc12 pm12 cd12 ct12 : Value}
    (l12 : K.lookup f12 = some ⟨oc12, od12, .func (PySem.W.fnOf "_law_pick" "_law_pick" (defArgs s__law_pick) (defBody s__law_pick) (defScope s__law_pick) .none kV12 dc12 pm12 an12 cd12 ct12), sl12⟩) (c12 : PySem.W.codeIn K cd12 "_law_pick" = true) (k12 : PySem.W.keepIn K (.ref f12) = true)
    (a12 : PySem.W.nsIn K mainGlobals "_law_pick" = some (some (.ref f12)))
    {f13 : Addr} {od13 an13 : Option Addr} {sl13 : Array (Option Value)} {oc13 kV13 dc13 pm13 cd13 ct13 : Value}
    (l13 : K.lookup f13 = some ⟨oc13, od13, .func (PySem.W.fnOf "_law_raw" "_law_raw" (defArgs s__law_raw) (defBody s__law_raw) (defScope s__law_raw) .none kV13 dc13 pm13 an13 cd13 ct13), sl13⟩) (c13 : PySem.W.codeIn K cd13 "_law_raw" = true) (k13 : PySem.W.keepIn K (.ref f13) = true)
    (a13 : PySem.W.nsIn K mainGlobals "_law_raw" = some (some (.ref f13)))
    {f14 : Addr} {od14 an14 : Option Addr} {sl14 : Array (Option Value)} {oc14 kV14 dc14 pm14 cd14 ct14 : Value}
    (l14 : K.lookup f14 = some ⟨oc14, od14, .func (PySem.W.fnOf "_law_any" "_law_any" (defArgs s__law_any) (defBody s__law_any) (defScope s__law_any) .none kV14 dc14 pm14 an14 cd14 ct14), sl14⟩) (c14 : PySem.W.codeIn K cd14 "_law_any" = true) (k14 : PySem.W.keepIn K (.ref f14) = true)
    (a14 : PySem.W.nsIn K mainGlobals "_law_any" = some (some (.ref f14)))
    {f15 : Addr} {od15 an15 : Option Addr} {sl15 : Array (Option Value)} {oc15 kV15 dc15 pm15 cd15 ct15 : Value}
    (l15 : K.lookup f15 = some ⟨oc15, od15, .func (PySem.W.fnOf "_law_is_whole" "_law_is_whole" (defArgs s__law_is_whole) (defBody s__law_is_whole) (defScope s__law_is_whole) .none kV15 dc15 pm15 an15 cd15 ct15), sl15⟩) (c15 : PySem.W.codeIn K cd15 "_law_is_whole" = true) (k15 : PySem.W.keepIn K (.ref f15) = true)
    (a15 : PySem.W.nsIn K mainGlobals "_law_is_whole" = some (some (.ref f15)))
    {f16 : Addr} {od16 an16 : Option Addr} {sl16 : Array (Option Value)} {oc16 kV16 dc16 pm16 cd16 ct16 : Value}
    (l16 : K.lookup f16 = some ⟨oc16, od16, .func (PySem.W.fnOf "_law_are_between" "_law_are_between" (defArgs s__law_are_between) (defBody s__law_are_between) (defScope s__law_are_between) .none kV16 dc16 pm16 an16 cd16 ct16), sl16⟩) (c16 : PySem.W.codeIn K cd16 "_law_are_between" = true) (k16 : PySem.W.keepIn K (.ref f16) = true)
    (a16 : PySem.W.nsIn K mainGlobals "_law_are_between" = some (some (.ref f16)))
    {f17 : Addr} {od17 an17 : Option Addr} {sl17 : Array (Option Value)} {oc17 kV17 dc17 pm17 cd17 ct17 : Value}
    (l17 : K.lookup f17 = some ⟨oc17, od17, .func (PySem.W.fnOf "_law_due" "_law_due" (defArgs s__law_due) (defBody s__law_due) (defScope s__law_due) .none kV17 dc17 pm17 an17 cd17 ct17), sl17⟩) (c17 : PySem.W.codeIn K cd17 "_law_due" = true) (k17 : PySem.W.keepIn K (.ref f17) = true)
    (a17 : PySem.W.nsIn K mainGlobals "_law_due" = some (some (.ref f17)))
    {f18 : Addr} {od18 an18 : Option Addr} {sl18 : Array (Option Value)} {oc18 kV18 dc18 pm18 cd18 ct18 : Value}
    (l18 : K.lookup f18 = some ⟨oc18, od18, .func (PySem.W.fnOf "_law_refused" "_law_refused" (defArgs s__law_refused) (defBody s__law_refused) (defScope s__law_refused) .none kV18 dc18 pm18 an18 cd18 ct18), sl18⟩) (c18 : PySem.W.codeIn K cd18 "_law_refused" = true) (k18 : PySem.W.keepIn K (.ref f18) = true)
    (a18 : PySem.W.nsIn K mainGlobals "_law_refused" = some (some (.ref f18)))
    {f19 : Addr} {od19 an19 : Option Addr} {sl19 : Array (Option Value)} {oc19 kV19 dc19 pm19 cd19 ct19 : Value}
    (l19 : K.lookup f19 = some ⟨oc19, od19, .func (PySem.W.fnOf "law" "law" (defArgs s_law) (defBody s_law) (defScope s_law) .none kV19 dc19 pm19 an19 cd19 ct19), sl19⟩) (c19 : PySem.W.codeIn K cd19 "law" = true) (k19 : PySem.W.keepIn K (.ref f19) = true)
    (a19 : PySem.W.nsIn K mainGlobals "law" = some (some (.ref f19)))
    (z_abs : PySem.W.nsIn K mainGlobals "abs" = some none)
    (z_all : PySem.W.nsIn K mainGlobals "all" = some none)
    (z_bool : PySem.W.nsIn K mainGlobals "bool" = some none)
    (z_int : PySem.W.nsIn K mainGlobals "int" = some none)
    (z_isinstance : PySem.W.nsIn K mainGlobals "isinstance" = some none)
    (z_len : PySem.W.nsIn K mainGlobals "len" = some none)
    (z_list : PySem.W.nsIn K mainGlobals "list" = some none)
    (z_max : PySem.W.nsIn K mainGlobals "max" = some none)
    (z_min : PySem.W.nsIn K mainGlobals "min" = some none)
    (z_range : PySem.W.nsIn K mainGlobals "range" = some none)
    (z_repr : PySem.W.nsIn K mainGlobals "repr" = some none)
    (z_tuple : PySem.W.nsIn K mainGlobals "tuple" = some none)
    : ∃ fd : FuncData, (∀ (s : Shared) (v : Value), BindsTo s fd ⟨[v], []⟩ [("_law_script", v)]) ∧ ∀ base : Heap, K.In base → base.Ns mainGlobals mg → FnOk l.prog w K mg base CX0 7 fa fd ["_law_script"] (spLaw K) := by
  have e := hfa.symm.trans (PySem.W.mg_of X G a19)
  cases e
  let T : Txt K mg := {
    c_RingError := C_RingError, m_RingError := PySem.W.mg_of X G aC_RingError,
    c_InvalidForm := C_InvalidForm, m_InvalidForm := PySem.W.mg_of X G aC_InvalidForm,
    a_InvalidForm___init__ := f0, d_InvalidForm___init__ := _, F_InvalidForm___init__ := fun_mk (st := s_InvalidForm___init__) l0 c0 k0, b_InvalidForm___init__ := (fun_mk (st := s_InvalidForm___init__) l0 c0 k0).binds (ps := ["self", "word"]) (fun _ _ _ _ _ _ us hl => match us, hl with | [_, _], _ => rfl), k_InvalidForm___init__ := k0,
    x_InvalidForm := ⟨⟨_, _, _, _, _, _, _, _, _, _, _, _, _, _, _, xL_InvalidForm, by first | rfl | decide +kernel⟩, sa_InvalidForm, eC_InvalidForm, tC_InvalidForm, kC_InvalidForm⟩, X_InvalidForm := ⟨cl_InvalidForm, ga_InvalidForm, gg_InvalidForm, eC_InvalidForm, ca_InvalidForm, spec, takes, mo_InvalidForm⟩, f_InvalidForm := ⟨ga_InvalidForm, gg_InvalidForm, eC_InvalidForm, hC_InvalidForm⟩,
    n_InvalidForm := nw_InvalidForm, i_InvalidForm := iC_InvalidForm, t_InvalidForm := iT_InvalidForm, e_InvalidForm := PySem.W.exm_ref eC_InvalidForm hC_InvalidForm tC_InvalidForm sC_InvalidForm,
    c_InvalidCalendar := C_InvalidCalendar, m_InvalidCalendar := PySem.W.mg_of X G aC_InvalidCalendar,
    a_InvalidCalendar___init__ := f1, d_InvalidCalendar___init__ := _, F_InvalidCalendar___init__ := fun_mk (st := s_InvalidCalendar___init__) l1 c1 k1, b_InvalidCalendar___init__ := (fun_mk (st := s_InvalidCalendar___init__) l1 c1 k1).binds (ps := ["self", "word"]) (fun _ _ _ _ _ _ us hl => match us, hl with | [_, _], _ => rfl), k_InvalidCalendar___init__ := k1,
    x_InvalidCalendar := ⟨⟨_, _, _, _, _, _, _, _, _, _, _, _, _, _, _, xL_InvalidCalendar, by first | rfl | decide +kernel⟩, sa_InvalidCalendar, eC_InvalidCalendar, tC_InvalidCalendar, kC_InvalidCalendar⟩, X_InvalidCalendar := ⟨cl_InvalidCalendar, ga_InvalidCalendar, gg_InvalidCalendar, eC_InvalidCalendar, ca_InvalidCalendar, spec, takes, mo_InvalidCalendar⟩, f_InvalidCalendar := ⟨ga_InvalidCalendar, gg_InvalidCalendar, eC_InvalidCalendar, hC_InvalidCalendar⟩,
    n_InvalidCalendar := nw_InvalidCalendar, i_InvalidCalendar := iC_InvalidCalendar, t_InvalidCalendar := iT_InvalidCalendar, e_InvalidCalendar := PySem.W.exm_ref eC_InvalidCalendar hC_InvalidCalendar tC_InvalidCalendar sC_InvalidCalendar,
    c_Calendar := C_Calendar, m_Calendar := PySem.W.mg_of X G aC_Calendar,
    C_Calendar := ⟨pg_Calendar, hd_Calendar, po_Calendar, sa_Calendar⟩,
    n_Calendar_period := n_period_Calendar,
    n_Calendar_rests := n_rests_Calendar,
    n_Calendar_start := n_start_Calendar,
    n_Calendar_few := n_few_Calendar,
    e_Calendar___init___0 := eD_Calendar___init___0,
    e_Calendar___init___3 := eD_Calendar___init___3,
    a_Calendar___init__ := f2, d_Calendar___init__ := _, F_Calendar___init__ := (show FunD K "__init__" "Calendar.__init__" (defArgs s_Calendar___init__) (defBody s_Calendar___init__) (defScope s_Calendar___init__) [(.ref eD_Calendar___init___0), (.int 1), (.int 1), (.ref eD_Calendar___init___3)] [] _ _ from ⟨⟨_, _, _, _, _, _, _, _, _, _, rfl, l2, c2, .inr ⟨by simp, _, _, [Value.ref eD_Calendar___init___0, Value.int 1 t2_1, Value.int 1 t2_2, Value.ref eD_Calendar___init___3], _, rfl, t2, rfl, by repeat (first | exact .nil | refine .cons ⟨_, rfl⟩ ?_ | refine .cons rfl ?_)⟩, .inl rfl⟩, k2⟩), b_Calendar___init__ := (by obtain ⟨ds, rv, bb⟩ := (show FunD K "__init__" "Calendar.__init__" (defArgs s_Calendar___init__) (defBody s_Calendar___init__) (defScope s_Calendar___init__) [(.ref eD_Calendar___init___0), (.int 1), (.int 1), (.ref eD_Calendar___init___3)] [] _ _ from ⟨⟨_, _, _, _, _, _, _, _, _, _, rfl, l2, c2, .inr ⟨by simp, _, _, [Value.ref eD_Calendar___init___0, Value.int 1 t2_1, Value.int 1 t2_2, Value.ref eD_Calendar___init___3], _, rfl, t2, rfl, by repeat (first | exact .nil | refine .cons ⟨_, rfl⟩ ?_ | refine .cons rfl ?_)⟩, .inl rfl⟩, k2⟩).binds1 (ps := ["self", "few", "start", "period", "rests"]) 5 4 (by simp) rfl (fun _ _ _ _ _ _ _ us its hl hi => match us, its, hl, hi with | [_, _, _, _, _], [_, _, _, _], _, _ => ⟨_, rfl, rfl⟩); cases rv; exact bb), k_Calendar___init__ := k2,
    M_Calendar := ⟨mk_Calendar, a2, i2, kc_Calendar⟩,
    kit_InvalidCalendar_RingError := kit_InvalidCalendar_RingError,
    kit_InvalidCalendar_InvalidForm := kit_InvalidCalendar_InvalidForm,
    a_is_whole := f3, d_is_whole := _, F_is_whole := fun_mk (st := s_is_whole) l3 c3 k3, b_is_whole := (fun_mk (st := s_is_whole) l3 c3 k3).binds (ps := ["value"]) (fun _ _ _ _ _ _ us hl => match us, hl with | [_], _ => rfl), k_is_whole := k3,
    m_is_whole := PySem.W.mg_of X G a3,
    a_is_sequence := f4, d_is_sequence := _, F_is_sequence := fun_mk (st := s_is_sequence) l4 c4 k4, b_is_sequence := (fun_mk (st := s_is_sequence) l4 c4 k4).binds (ps := ["value"]) (fun _ _ _ _ _ _ us hl => match us, hl with | [_], _ => rfl), k_is_sequence := k4,
    m_is_sequence := PySem.W.mg_of X G a4,
    a__is_from_1 := f5, d__is_from_1 := _, F__is_from_1 := fun_mk (st := s__is_from_1) l5 c5 k5, b__is_from_1 := (fun_mk (st := s__is_from_1) l5 c5 k5).binds (ps := ["value"]) (fun _ _ _ _ _ _ us hl => match us, hl with | [_], _ => rfl), k__is_from_1 := k5,
    m__is_from_1 := PySem.W.mg_of X G a5,
    a__are_between := f6, d__are_between := _, F__are_between := fun_mk (st := s__are_between) l6 c6 k6, b__are_between := (fun_mk (st := s__are_between) l6 c6 k6).binds (ps := ["values", "low", "end"]) (fun _ _ _ _ _ _ us hl => match us, hl with | [_, _, _], _ => rfl), k__are_between := k6,
    m__are_between := PySem.W.mg_of X G a6,
    a__ascending := f7, d__ascending := _, F__ascending := fun_mk (st := s__ascending) l7 c7 k7, b__ascending := (fun_mk (st := s__ascending) l7 c7 k7).binds (ps := ["values", "low", "end"]) (fun _ _ _ _ _ _ us hl => match us, hl with | [_, _, _], _ => rfl), k__ascending := k7,
    m__ascending := PySem.W.mg_of X G a7,
    a__least_period := f8, d__least_period := _, F__least_period := fun_mk (st := s__least_period) l8 c8 k8, b__least_period := (fun_mk (st := s__least_period) l8 c8 k8).binds (ps := ["period", "rests"]) (fun _ _ _ _ _ _ us hl => match us, hl with | [_, _], _ => rfl), k__least_period := k8,
    m__least_period := PySem.W.mg_of X G a8,
    a__least_start := f9, d__least_start := _, F__least_start := fun_mk (st := s__least_start) l9 c9 k9, b__least_start := (fun_mk (st := s__least_start) l9 c9 k9).binds (ps := ["few", "start", "period", "rests"]) (fun _ _ _ _ _ _ us hl => match us, hl with | [_, _, _, _], _ => rfl), k__least_start := k9,
    m__least_start := PySem.W.mg_of X G a9,
    a__law_box := f10, d__law_box := _, F__law_box := fun_mk (st := s__law_box) l10 c10 k10, b__law_box := (fun_mk (st := s__law_box) l10 c10 k10).binds (ps := ["_law_script", "_law_k"]) (fun _ _ _ _ _ _ us hl => match us, hl with | [_, _], _ => rfl), k__law_box := k10,
    m__law_box := PySem.W.mg_of X G a10,
    a__law_take := f11, d__law_take := _, F__law_take := fun_mk (st := s__law_take) l11 c11 k11, b__law_take := (fun_mk (st := s__law_take) l11 c11 k11).binds (ps := ["_law_box_here", "_law_many"]) (fun _ _ _ _ _ _ us hl => match us, hl with | [_, _], _ => rfl), k__law_take := k11,
    m__law_take := PySem.W.mg_of X G a11,
    a__law_pick := f12, d__law_pick := _, F__law_pick := fun_mk (st := s__law_pick) l12 c12 k12, b__law_pick := (fun_mk (st := s__law_pick) l12 c12 k12).binds (ps := ["_law_box_here", "_law_some"]) (fun _ _ _ _ _ _ us hl => match us, hl with | [_, _], _ => rfl), k__law_pick := k12,
    m__law_pick := PySem.W.mg_of X G a12,
    a__law_raw := f13, d__law_raw := _, F__law_raw := fun_mk (st := s__law_raw) l13 c13 k13, b__law_raw := (fun_mk (st := s__law_raw) l13 c13 k13).binds (ps := ["_law_box_here", "_law_far", "_law_wide"]) (fun _ _ _ _ _ _ us hl => match us, hl with | [_, _, _], _ => rfl), k__law_raw := k13,
    m__law_raw := PySem.W.mg_of X G a13,
    a__law_any := f14, d__law_any := _, F__law_any := fun_mk (st := s__law_any) l14 c14 k14, b__law_any := (fun_mk (st := s__law_any) l14 c14 k14).binds (ps := ["_law_box_here", "_law_deep"]) (fun _ _ _ _ _ _ us hl => match us, hl with | [_, _], _ => rfl), k__law_any := k14,
    m__law_any := PySem.W.mg_of X G a14,
    a__law_is_whole := f15, d__law_is_whole := _, F__law_is_whole := fun_mk (st := s__law_is_whole) l15 c15 k15, b__law_is_whole := (fun_mk (st := s__law_is_whole) l15 c15 k15).binds (ps := ["_law_value", "_law_low"]) (fun _ _ _ _ _ _ us hl => match us, hl with | [_, _], _ => rfl), k__law_is_whole := k15,
    m__law_is_whole := PySem.W.mg_of X G a15,
    a__law_are_between := f16, d__law_are_between := _, F__law_are_between := fun_mk (st := s__law_are_between) l16 c16 k16, b__law_are_between := (fun_mk (st := s__law_are_between) l16 c16 k16).binds (ps := ["_law_value", "_law_low", "_law_high"]) (fun _ _ _ _ _ _ us hl => match us, hl with | [_, _, _], _ => rfl), k__law_are_between := k16,
    m__law_are_between := PySem.W.mg_of X G a16,
    a__law_due := f17, d__law_due := _, F__law_due := fun_mk (st := s__law_due) l17 c17 k17, b__law_due := (fun_mk (st := s__law_due) l17 c17 k17).binds (ps := ["_law_told"]) (fun _ _ _ _ _ _ us hl => match us, hl with | [_], _ => rfl), k__law_due := k17,
    m__law_due := PySem.W.mg_of X G a17,
    a__law_refused := f18, d__law_refused := _, F__law_refused := fun_mk (st := s__law_refused) l18 c18 k18, b__law_refused := (fun_mk (st := s__law_refused) l18 c18 k18).binds (ps := ["_law_told"]) (fun _ _ _ _ _ _ us hl => match us, hl with | [_], _ => rfl), k__law_refused := k18,
    m__law_refused := PySem.W.mg_of X G a18,
    a_law := fa, d_law := _, F_law := fun_mk (st := s_law) l19 c19 k19, b_law := (fun_mk (st := s_law) l19 c19 k19).binds (ps := ["_law_script"]) (fun _ _ _ _ _ _ us hl => match us, hl with | [_], _ => rfl), k_law := k19,
    m_law := PySem.W.mg_of X G a19,
    z_abs := PySem.W.mg_none_of X G z_abs, z_all := PySem.W.mg_none_of X G z_all, z_bool := PySem.W.mg_none_of X G z_bool, z_int := PySem.W.mg_none_of X G z_int, z_isinstance := PySem.W.mg_none_of X G z_isinstance, z_len := PySem.W.mg_none_of X G z_len, z_list := PySem.W.mg_none_of X G z_list, z_max := PySem.W.mg_none_of X G z_max, z_min := PySem.W.mg_none_of X G z_min, z_range := PySem.W.mg_none_of X G z_range, z_repr := PySem.W.mg_none_of X G z_repr, z_tuple := PySem.W.mg_none_of X G z_tuple }
  exact ⟨PySem.W.fnOf "law" "law" (defArgs s_law) (defBody s_law) (defScope s_law) .none kV19 dc19 pm19 an19 cd19 ct19, fun s v => .of_eq rfl, fun base _ _ => ok_law T⟩
end K30
open PySem PySem.W PyProof.Rows
set_option maxHeartbeats 0 in
theorem PySem.Challenge.cw_ringsums_k30_calendars_refused_holds : PySem.Challenge.rw_ringsums_k30_calendars_refused.Holds := by
  w_on; o_law; k_head; (case hw => w_witness2)
  k_fill
  refine L2.walk_of (l := PySem.Challenge.rw_ringsums_k30_calendars_refused) (n := 63) (k := 7) (x := "_law_script") (CX := fun _ => L2.CX0) (sp := fun w => K30.spLaw _) rfl (by decide) rfl ⟨rfl, by decide, by decide⟩ (fun w h Y => PySem.W.kIn_of Y) ?F (fun _ _ a ns hl _ hS => ⟨a, ns, rfl, hS, hl, fun _ => rfl⟩) (fun _ _ _ _ _ h => h)
  case F =>
    intro w mg fa h KX G hmg
    refine' K30.all_mk KX G hmg ?aC_RingError ?aC_InvalidForm ?xL_InvalidForm ?sa_InvalidForm ?ga_InvalidForm ?gg_InvalidForm ?nw_InvalidForm ?ca_InvalidForm ?kC_InvalidForm ?eC_InvalidForm ?tC_InvalidForm ?hC_InvalidForm ?sC_InvalidForm ?mo_InvalidForm ?cl_InvalidForm ?l0 ?c0 ?k0 ?iC_InvalidForm ?iT_InvalidForm ?aC_InvalidCalendar ?xL_InvalidCalendar ?sa_InvalidCalendar ?ga_InvalidCalendar ?gg_InvalidCalendar ?nw_InvalidCalendar ?ca_InvalidCalendar ?kC_InvalidCalendar ?eC_InvalidCalendar ?tC_InvalidCalendar ?hC_InvalidCalendar ?sC_InvalidCalendar ?mo_InvalidCalendar ?cl_InvalidCalendar ?l1 ?c1 ?k1 ?iC_InvalidCalendar ?iT_InvalidCalendar ?aC_Calendar ?pg_Calendar ?hd_Calendar ?po_Calendar ?sa_Calendar ?mk_Calendar ?kc_Calendar ?n_period_Calendar ?n_rests_Calendar ?n_start_Calendar ?n_few_Calendar ?t2 ?l2 ?c2 ?k2 ?a2 ?i2 ?spec ?takes ?kit_InvalidCalendar_RingError ?kit_InvalidCalendar_InvalidForm ?l3 ?c3 ?k3 ?a3 ?l4 ?c4 ?k4 ?a4 ?l5 ?c5 ?k5 ?a5 ?l6 ?c6 ?k6 ?a6 ?l7 ?c7 ?k7 ?a7 ?l8 ?c8 ?k8 ?a8 ?l9 ?c9 ?k9 ?a9 ?l10 ?c10 ?k10 ?a10 ?l11 ?c11 ?k11 ?a11 ?l12 ?c12 ?k12 ?a12 ?l13 ?c13 ?k13 ?a13 ?l14 ?c14 ?k14 ?a14 ?l15 ?c15 ?k15 ?a15 ?l16 ?c16 ?k16 ?a16 ?l17 ?c17 ?k17 ?a17 ?l18 ?c18 ?k18 ?a18 ?l19 ?c19 ?k19 ?a19 ?z_abs ?z_all ?z_bool ?z_int ?z_isinstance ?z_len ?z_list ?z_max ?z_min ?z_range ?z_repr ?z_tuple
    (case aC_RingError => k_is)
    (case aC_InvalidForm => k_is)
    (case aC_InvalidCalendar => k_is)
    (case aC_Calendar => k_is)
    (case iC_InvalidForm => k_is)
    (case iC_InvalidCalendar => k_is)
    (case a2 => k_is)
    (case a3 => k_is)
    (case a4 => k_is)
    (case a5 => k_is)
    (case a6 => k_is)
    (case a7 => k_is)
    (case a8 => k_is)
    (case a9 => k_is)
    (case a10 => k_is)
    (case a11 => k_is)
    (case a12 => k_is)
    (case a13 => k_is)
    (case a14 => k_is)
    (case a15 => k_is)
    (case a16 => k_is)
    (case a17 => k_is)
    (case a18 => k_is)
    (case a19 => k_is)
    (case xL_InvalidForm => k_is)
    (case l0 => k_is)
    (case xL_InvalidCalendar => k_is)
    (case l1 => k_is)
    (case l2 => k_is)
    (case l3 => k_is)
    (case l4 => k_is)
    (case l5 => k_is)
    (case l6 => k_is)
    (case l7 => k_is)
    (case l8 => k_is)
    (case l9 => k_is)
    (case l10 => k_is)
    (case l11 => k_is)
    (case l12 => k_is)
    (case l13 => k_is)
    (case l14 => k_is)
    (case l15 => k_is)
    (case l16 => k_is)
    (case l17 => k_is)
    (case l18 => k_is)
    (case l19 => k_is)
    (case sa_InvalidForm => k_is)
    (case ga_InvalidForm => k_is)
    (case gg_InvalidForm => k_is)
    (case nw_InvalidForm => k_is)
    (case ca_InvalidForm => k_is)
    (case kC_InvalidForm => k_is)
    (case eC_InvalidForm => k_is)
    (case tC_InvalidForm => first | rfl | k_is)
    (case hC_InvalidForm => k_is)
    (case sC_InvalidForm => first | rfl | k_is)
    (case mo_InvalidForm => first | rfl | k_is)
    (case cl_InvalidForm => first | rfl | k_is)
    (case c0 => k_is)
    (case k0 => k_is)
    (case iT_InvalidForm => k_is)
    (case sa_InvalidCalendar => k_is)
    (case ga_InvalidCalendar => k_is)
    (case gg_InvalidCalendar => k_is)
    (case nw_InvalidCalendar => k_is)
    (case ca_InvalidCalendar => k_is)
    (case kC_InvalidCalendar => k_is)
    (case eC_InvalidCalendar => k_is)
    (case tC_InvalidCalendar => first | rfl | k_is)
    (case hC_InvalidCalendar => k_is)
    (case sC_InvalidCalendar => first | rfl | k_is)
    (case mo_InvalidCalendar => first | rfl | k_is)
    (case cl_InvalidCalendar => first | rfl | k_is)
    (case c1 => k_is)
    (case k1 => k_is)
    (case iT_InvalidCalendar => k_is)
    (case pg_Calendar => k_is)
    (case hd_Calendar => k_is)
    (case po_Calendar => k_is)
    (case sa_Calendar => k_is)
    (case mk_Calendar => k_is)
    (case kc_Calendar => k_is)
    (case n_period_Calendar => k_is)
    (case n_rests_Calendar => k_is)
    (case n_start_Calendar => k_is)
    (case n_few_Calendar => k_is)
    (case t2 => first | rfl | k_is)
    (case c2 => k_is)
    (case k2 => k_is)
    (case i2 => k_is)
    (case spec => first | rfl | k_is)
    (case takes => first | rfl | k_is)
    (case kit_InvalidCalendar_RingError => first | rfl | k_is)
    (case kit_InvalidCalendar_InvalidForm => first | rfl | k_is)
    (case c3 => k_is)
    (case k3 => k_is)
    (case c4 => k_is)
    (case k4 => k_is)
    (case c5 => k_is)
    (case k5 => k_is)
    (case c6 => k_is)
    (case k6 => k_is)
    (case c7 => k_is)
    (case k7 => k_is)
    (case c8 => k_is)
    (case k8 => k_is)
    (case c9 => k_is)
    (case k9 => k_is)
    (case c10 => k_is)
    (case k10 => k_is)
    (case c11 => k_is)
    (case k11 => k_is)
    (case c12 => k_is)
    (case k12 => k_is)
    (case c13 => k_is)
    (case k13 => k_is)
    (case c14 => k_is)
    (case k14 => k_is)
    (case c15 => k_is)
    (case k15 => k_is)
    (case c16 => k_is)
    (case k16 => k_is)
    (case c17 => k_is)
    (case k17 => k_is)
    (case c18 => k_is)
    (case k18 => k_is)
    (case c19 => k_is)
    (case k19 => k_is)
    (case z_abs => k_is)
    (case z_all => k_is)
    (case z_bool => k_is)
    (case z_int => k_is)
    (case z_isinstance => k_is)
    (case z_len => k_is)
    (case z_list => k_is)
    (case z_max => k_is)
    (case z_min => k_is)
    (case z_range => k_is)
    (case z_repr => k_is)
    (case z_tuple => k_is)
