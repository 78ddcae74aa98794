import PyProof.Rows.All
import Wide.All
import OpenK.AllK
import Wide.FinOn
import HandS.ForMost
import HandS.Wide
import HandS.Conv
import HandS.IsInst
import HandS.Walk
import HandS.TupAny
import HandS.TupMul
import HandS.TryOnly
import HandS.Style
import HandS.Flow
import HandS.Deep
import HandS.ForExc
import HandS.ExcInit
import HandS.ExcIs
import HandS.ExcField
import HandS.Defaults
import HandS.RaiseMore
import KE.KExcIs
import HandS.OwnEq
import HandS.SlotsOwn
import PyProof.InstNe
import HandS.DictComp
import PyProof.Rows.FloatCmp
import KE.KOpsOwn
import OpenK.KMeth
import HandS.Property
import HandS.Gcd
import PyProof.ReprRoads
import PyProof.CallFns
import HandS.ListItems
import HandS.Zip
import HandS.GenList
import KE.GoesZip
import KE.KItemsList
import PyProof.ZipIter
import HandS.FStr
import HandS.Text
import KE.KCallOwn
import KE.KIntText
import PyProof.Rows.ReprOcc
import HandS.SetFor
import HandS.Strs
import PyProof.Rows.SortShellAny
import HandS.Nested
import HandS.EndOwn
import PySem.Challenge.RW_ringsums_k32_signs_of_calendars
set_option Elab.async false
set_option linter.all false
set_option maxRecDepth 100000
set_option maxHeartbeats 4000000
namespace Rs
open PySem PySem.Spec PyProof.Rows L2

/-! ### what never changes: tuples, instances, their dicts -/
def frozen : HO → Prop
  | .tup _ => True
  | .ins _ _ _ => True
  | .own _ => True
  | .frz _ _ => True
  | _ => False
def Fz (H H' : Hp) : Prop := ∀ a o, frozen o → H a = some o → H' a = some o
theorem Fz.refl (H : Hp) : Fz H H := fun _ _ _ h => h
theorem Fz.trans {H H1 H2 : Hp} (a : Fz H H1) (b : Fz H1 H2) : Fz H H2 := fun x o f h => b x o f (a x o f h)
theorem Fz.of_same {H H' : Hp} (s : Same H H') : Fz H H' := fun a o _ h => s a o h
theorem same_new {H : Hp} {p : Addr} {o : HO} (h : H p = none) : Same H (upd H p o) := fun b x e => by
  rw [upd_ne (ne_of_none e h)]
  exact e
theorem Fz.new {H : Hp} {p : Addr} {o : HO} (h : H p = none) : Fz H (upd H p o) := Fz.of_same (same_new h)
theorem Fz.lst {H : Hp} {p : Addr} {xs : List V} {o : HO} (h : H p = some (.lst xs)) : Fz H (upd H p o) := fun a u f e => by
  have : a ≠ p := by
    rintro rfl
    rw [h] at e
    cases e
    exact f
  rw [upd_ne this]
  exact e

/-! ### data of tuples -/
mutual
inductive Dt (K : PySem.W.Frag) (H : Hp) : V → PyData → Prop
  | non : Dt K H .non .none
  | bl (b : Bool) : Dt K H (.bl b) (.bool b)
  | int (i : Int) : Dt K H (.int i) (.int i)
  | str (x : Str) : Dt K H (.str x) (.str x)
  | tup {a : Addr} {xs : List V} {ds : List PyData} : SqT K H a xs → DtAll K H xs ds → Dt K H (.ref a) (.tuple ds)
inductive DtAll (K : PySem.W.Frag) (H : Hp) : List V → List PyData → Prop
  | nil : DtAll K H [] []
  | cons {v : V} {vs : List V} {d : PyData} {ds : List PyData} : Dt K H v d → DtAll K H vs ds → DtAll K H (v :: vs) (d :: ds)
end
theorem Fz.sqT {K : PySem.W.Frag} {H H' : Hp} {a : Addr} {xs : List V} (e : Fz H H') (h : SqT K H a xs) : SqT K H' a xs := by
  rcases h with (h | ⟨o, h⟩) | h
  · exact .inl (.inl (e _ _ trivial h))
  · exact .inl (.inr ⟨o, e _ _ trivial h⟩)
  · exact .inr h
mutual
theorem Dt.mono {K : PySem.W.Frag} {H H' : Hp} (e : Fz H H') : ∀ {v : V} {d : PyData}, Dt K H v d → Dt K H' v d
  | _, _, .non => .non
  | _, _, .bl b => .bl b
  | _, _, .int i => .int i
  | _, _, .str x => .str x
  | _, _, .tup h hs => .tup (e.sqT h) (DtAll.mono e hs)
theorem DtAll.mono {K : PySem.W.Frag} {H H' : Hp} (e : Fz H H') : ∀ {v : List V} {d : List PyData}, DtAll K H v d → DtAll K H' v d
  | _, _, .nil => .nil
  | _, _, .cons h hs => .cons (h.mono e) (DtAll.mono e hs)
end
mutual
theorem Dt.dp {K : PySem.W.Frag} {H : Hp} : ∀ {v : V} {d : PyData}, Dt K H v d → Dp K H v d
  | _, _, .non => .non
  | _, _, .bl b => .bl b
  | _, _, .int i => .int i
  | _, _, .str x => .str x
  | _, _, .tup h hs => .tup h (DtAll.dp hs)
theorem DtAll.dp {K : PySem.W.Frag} {H : Hp} : ∀ {v : List V} {d : List PyData}, DtAll K H v d → DpAll K H v d
  | _, _, .nil => .nil
  | _, _, .cons h hs => .cons h.dp (DtAll.dp hs)
end
theorem DtAll.length {K : PySem.W.Frag} {H : Hp} : ∀ {v : List V} {d : List PyData}, DtAll K H v d → v.length = d.length
  | _, _, .nil => rfl
  | _, _, .cons _ hs => congrArg (· + 1) hs.length
theorem DtAll.append {K : PySem.W.Frag} {H : Hp} : ∀ {v w : List V} {d e : List PyData}, DtAll K H v d → DtAll K H w e → DtAll K H (v ++ w) (d ++ e)
  | _, _, _, _, .nil, k => k
  | _, _, _, _, .cons h hs, k => .cons h (hs.append k)
theorem DtAll.get {K : PySem.W.Frag} {H : Hp} : ∀ {v : List V} {d : List PyData} {i : Nat} {x : PyData}, DtAll K H v d → d[i]? = some x → ∃ y, v[i]? = some y ∧ Dt K H y x
  | _, _, i, x, .nil, e => by simp at e
  | _, _, 0, x, .cons h _, e => ⟨_, rfl, by
      have : _ = x := Option.some.inj e
      exact this ▸ h⟩
  | _, _, i + 1, x, .cons _ hs, e => by
    have e' := e
    simp only [List.getElem?_cons_succ] at e' ⊢
    exact hs.get e'
theorem DtAll.getV {K : PySem.W.Frag} {H : Hp} : ∀ {v : List V} {d : List PyData} {i : Nat} {y : V}, DtAll K H v d → v[i]? = some y → ∃ x, d[i]? = some x ∧ Dt K H y x
  | _, _, i, x, .nil, e => by simp at e
  | _, _, 0, x, .cons h _, e => ⟨_, rfl, by
      have : _ = x := Option.some.inj e
      exact this ▸ h⟩
  | _, _, i + 1, x, .cons _ hs, e => by
    have e' := e
    simp only [List.getElem?_cons_succ] at e' ⊢
    exact hs.getV e'

/-! ### the box of draws -/
structure BoxI (x y z : Int) : Prop where
  x0 : 0 ≤ x
  y1 : 1 ≤ y
  y2 : y ≤ 2147483629
def boxL (x y z : Int) : List V := [.int x, .int y, .int z]
def Box (H : Hp) (b : Addr) : Prop := ∃ x y z, H b = some (.lst (boxL x y z)) ∧ BoxI x y z
/-- all but the list at b is as it was -/
def But (b : Addr) (H H' : Hp) : Prop := ∀ a o, a ≠ b → H a = some o → H' a = some o
theorem But.refl (b : Addr) (H : Hp) : But b H H := fun _ _ _ h => h
theorem But.trans {b : Addr} {H H1 H2 : Hp} (x : But b H H1) (y : But b H1 H2) : But b H H2 := fun a o n h => y a o n (x a o n h)
theorem But.of_same {b : Addr} {H H' : Hp} (s : Same H H') : But b H H' := fun a o _ h => s a o h
theorem But.upd {b : Addr} {H H' : Hp} {o : HO} (s : But b H H') : But b H (upd H' b o) := fun a u n h => by
  rw [upd_ne n]
  exact s a u n h
theorem Box.same {b : Addr} {H H' : Hp} (x : Box H b) (s : Same H H') : Box H' b := by
  obtain ⟨x, y, z, h, i⟩ := x
  exact ⟨x, y, z, s _ _ h, i⟩
theorem Box.fz {b : Addr} {H H' : Hp} (x : Box H b) (s : But b H H') : Fz H H' := fun a o f h => by
  refine s a o ?_ h
  rintro rfl
  obtain ⟨x, y, z, h', i⟩ := x
  rw [h'] at h
  cases h
  exact f
theorem Box.ne_none {b p : Addr} {H : Hp} (x : Box H b) (h : H p = none) : p ≠ b := by
  rintro rfl
  obtain ⟨x, y, z, h', i⟩ := x
  rw [h] at h'
  cases h'
theorem ifB {b : Bool} {A B : Prop} (h1 : b = true → A) (h2 : b = false → B) : if b = true then A else B := by
  cases b with
  | true => rw [if_pos rfl]; exact h1 rfl
  | false => rw [if_neg Bool.false_ne_true]; exact h2 rfl
theorem ifD {c A B : Prop} [Decidable c] (h1 : c → A) (h2 : ¬ c → B) : if decide c = true then A else B := ifB (fun e => h1 (of_decide_eq_true e)) (fun e => h2 (of_decide_eq_false e))
theorem ifN {c A B : Prop} [Decidable c] (h1 : ¬ c → A) (h2 : c → B) : if (!decide c) = true then A else B := by
  by_cases h : c
  · rw [decide_eq_true h]; exact h2 h
  · rw [decide_eq_false h]; exact h1 h
theorem ifT {b : Bool} {A B : Prop} (e : b = true) (h1 : A) : if b = true then A else B := by rw [if_pos e]; exact h1
theorem ifF {b : Bool} {A B : Prop} (e : b = false) (h1 : B) : if b = true then A else B := by rw [e, if_neg Bool.false_ne_true]; exact h1
theorem szL {n : Nat} (h : n ≤ 1000) : n ≤ sizeLine := Nat.le_trans h (by decide)
theorem szl {n : Nat} (h : n ≤ 1000) : n < sizeLine := Nat.lt_of_le_of_lt h (by decide)
theorem atI_ok {xs : List V} {i : Int} {j : Nat} {v : V} (h0 : 0 ≤ i) (e : i.toNat = j) (h : xs[j]? = some v) : atI xs i = some v := at_of (by omega) h
theorem ints_at {ns : List Int} {k : Int} (h0 : 0 ≤ k) (h1 : k < ns.length) : ∃ z, atI (ns.map V.int) k = some (.int z) := by
  have h2 : k.toNat < ns.length := by omega
  exact ⟨ns[k.toNat], atI_ok h0 rfl (by rw [List.getElem?_map, List.getElem?_eq_getElem h2]; rfl)⟩
theorem range_succ_map {α : Type} (f : Nat → α) (i : Nat) : (List.range (i + 1)).map f = (List.range i).map f ++ [f i] := by
  rw [List.range_succ, List.map_append]; rfl
theorem DtAll.snoc {K : PySem.W.Frag} {H : Hp} {v : List V} {d : List PyData} {x : V} {y : PyData} (h : DtAll K H v d) (k : Dt K H x y) : DtAll K H (v ++ [x]) (d ++ [y]) := h.append (.cons k .nil)
theorem same_lst {H H' : Hp} {p : Addr} {o : HO} (s : Same H H') (n : H p = none) : Same H (upd H' p o) := fun a u e => by
  rw [upd_ne (ne_of_none e n)]
  exact s a u e
theorem natAbs_abs {i : Int} : 0 ≤ (if i < 0 then -i else i) := by split <;> omega
theorem pick2 (b : Bool) (u v : Int) : atI [.int u, .int v] (if b = true then 1 else 0) = some (V.int (if b = true then v else u)) := by
  cases b <;> rfl
theorem ite_ge0 {b : Bool} {u v : Int} (h1 : 0 ≤ u) (h2 : 0 ≤ v) : 0 ≤ (if b = true then v else u) := by cases b <;> assumption
theorem mem_at {xs : List V} {k : Int} (h0 : 0 ≤ k) (h1 : k < xs.length) : ∃ v, v ∈ xs ∧ atI xs k = some v := by
  have h2 : k.toNat < xs.length := by omega
  exact ⟨xs[k.toNat], List.getElem_mem h2, atI_ok h0 rfl (List.getElem?_eq_getElem h2)⟩
/-! reading tuples of data -/
def atD (ds : List PyData) (i : Int) : Option PyData := (ixN ds.length i).bind fun j => ds[j]?
theorem DtAll.at {K : PySem.W.Frag} {H : Hp} {xs : List V} {ds : List PyData} {i : Int} {d : PyData} (h : DtAll K H xs ds) (e : atD ds i = some d) : ∃ v, atI xs i = some v ∧ Dt K H v d := by
  unfold atD at e
  unfold atI
  rw [h.length]
  cases q : ixN ds.length i with
  | none => rw [q] at e; cases e
  | some j =>
    rw [q] at e
    exact h.get e
theorem rix_dt {K : PySem.W.Frag} {H : Hp} {v : V} {i : Int} {ds : List PyData} {d : PyData} {Q : VK} (h : Dt K H v (.tuple ds)) (e : atD ds i = some d) (q : ∀ y, Dt K H y d → Q y H) : rIxT K v (.int i) H Q := by
  cases h with
  | tup hs ha =>
    obtain ⟨y, h1, h2⟩ := ha.at e
    exact ⟨_, _, _, _, rfl, rfl, hs, h1, q y h2⟩
theorem Dt.int_eq {K : PySem.W.Frag} {H : Hp} {v : V} {i : Int} (h : Dt K H v (.int i)) : v = .int i := by cases h; rfl
theorem Dt.str_eq {K : PySem.W.Frag} {H : Hp} {v : V} {i : Str} (h : Dt K H v (.str i)) : v = .str i := by cases h; rfl
theorem atD_nat {ds : List PyData} {j : Nat} {d : PyData} (e : ds[j]? = some d) : atD ds ((j : Nat) : Int) = some d := by
  have h := (List.getElem?_eq_some_iff.mp e).1
  unfold atD ixN
  rw [if_pos (by omega), if_pos (by omega)]
  exact e
theorem atD_last {ds : List PyData} {d : PyData} (h : 0 < ds.length) (e : ds[ds.length - 1]? = some d) : atD ds (-1) = some d := by
  unfold atD ixN
  rw [if_neg (by omega), if_pos (by omega)]
  show ds[((-1 : Int) + ds.length).toNat]? = some d
  rw [show ((-1 : Int) + ds.length).toNat = ds.length - 1 by omega]
  exact e
def tyD : PyData → String
  | .none => "NoneType"
  | .bool _ => "bool"
  | .int _ => "int"
  | .str _ => "str"
  | .list _ => "list"
  | .tuple _ => "tuple"
  | .dict _ => "dict"
theorem sqT_ty {K : PySem.W.Frag} {H : Hp} {a : Addr} {xs : List V} (h : SqT K H a xs) : TyX K H (.ref a) (.type "tuple") := by
  rcases h with (h | ⟨o, h⟩) | ⟨o, its, n, h1, h2, _⟩
  · exact .base (.tup h)
  · exact .fTuple h
  · exact .kTuple h1 h2
theorem Dt.ty {K : PySem.W.Frag} {H : Hp} {v : V} {d : PyData} (h : Dt K H v d) : TyX K H v (.type (tyD d)) := by
  cases h with
  | non => exact .base .non
  | bl b => exact .base (.bl b)
  | int i => exact .base (.int i)
  | str x => exact .base (.str x)
  | tup h _ => exact sqT_ty h
theorem neF {a b : Int} (h : a = b) : (!decide (V.int a = V.int b)) = false := by rw [h]; simp
theorem Dt.len {K : PySem.W.Frag} {H : Hp} {a : Addr} {ds : List PyData} (h : Dt K H (.ref a) (.tuple ds)) : ∃ xs, SqT K H a xs ∧ xs.length = ds.length ∧ DtAll K H xs ds := by
  cases h with
  | tup h hs => exact ⟨_, h, hs.length, hs⟩

structure okD (k : Nat) (d : PyData) : Prop where
  lay : d.canLay0 = true
  dep : d.depth ≤ k
theorem okD.mono {k l : Nat} {d : PyData} (h : okD k d) (e : k ≤ l) : okD l d := ⟨h.lay, Nat.le_trans h.dep e⟩
theorem okD_all {k : Nat} : ∀ {ds : List PyData}, (∀ d ∈ ds, okD k d) → PyData.canLayAll0 ds = true ∧ PyData.depthAll ds ≤ k
  | [], _ => ⟨rfl, Nat.zero_le _⟩
  | d :: ds, h => by
    have h1 := h d List.mem_cons_self
    have h2 := okD_all (ds := ds) fun x hx => h x (List.mem_cons_of_mem _ hx)
    refine ⟨?_, ?_⟩
    · show (PyData.canLay0 d && PyData.canLayAll0 ds) = true
      rw [h1.lay, h2.1]; rfl
    · show max (PyData.depth d) (PyData.depthAll ds) ≤ k
      exact Nat.max_le.mpr ⟨h1.dep, h2.2⟩
theorem okD.tuple {k : Nat} {ds : List PyData} (h : ∀ d ∈ ds, okD k d) : okD (k + 1) (.tuple ds) :=
  have q := okD_all h
  ⟨q.1, Nat.succ_le_succ q.2⟩
theorem okD.list {k : Nat} {ds : List PyData} (h : ∀ d ∈ ds, okD k d) : okD (k + 1) (.list ds) :=
  have q := okD_all h
  ⟨q.1, Nat.succ_le_succ q.2⟩
theorem okD.shaped {k : Nat} {d : PyData} (h : okD k d) (hk : k ≤ 64) : SeqAt.shaped d = true := by
  unfold SeqAt.shaped
  rw [h.lay, decide_eq_true (Nat.le_trans h.dep hk)]; rfl
theorem eqv_self {k : Nat} {d : PyData} (h : okD k d) : PyData.eqv d d = true := SeqAt.eqv_refl d h.lay
theorem rne_dt {K : PySem.W.Frag} {H : Hp} {x y : V} {k : Nat} {d : PyData} {Q : VK} (hx : Dt K H x d) (hy : Dt K H y d) (o : okD k d) (hk : k ≤ 64) (q : Q (.bl false) H) : rNeD K x y H Q :=
  ⟨d, d, hx.dp, hy.dp, o.shaped hk, o.shaped hk, by rw [eqv_self o]; exact q⟩
theorem req_dt {K : PySem.W.Frag} {H : Hp} {x y : V} {k : Nat} {d : PyData} {Q : VK} (hx : Dt K H x d) (hy : Dt K H y d) (o : okD k d) (hk : k ≤ 64) (q : Q (.bl true) H) : rEqD K x y H Q :=
  ⟨d, d, hx.dp, hy.dp, o.shaped hk, o.shaped hk, by rw [eqv_self o]; exact q⟩

theorem atD0 {ds : List PyData} {d : PyData} (e : ds[0]? = some d) : atD ds 0 = some d := atD_nat (j := 0) e
theorem atD1 {ds : List PyData} {d : PyData} (e : ds[1]? = some d) : atD ds 1 = some d := atD_nat (j := 1) e
theorem atD2 {ds : List PyData} {d : PyData} (e : ds[2]? = some d) : atD ds 2 = some d := atD_nat (j := 2) e
theorem atD3 {ds : List PyData} {d : PyData} (e : ds[3]? = some d) : atD ds 3 = some d := atD_nat (j := 3) e
theorem atDi {ds : List PyData} {d : PyData} {i : Int} {j : Nat} (h : i = (j : Int)) (e : ds[j]? = some d) : atD ds i = some d := by
  subst h
  exact atD_nat e

theorem floor_step {a b n : Int} (h : 0 < n) : b / n ≤ (a + b) / n - a / n ∧ (a + b) / n - a / n ≤ b / n + 1 := by
  have ha := Int.emod_add_mul_ediv a n
  have hb := Int.emod_add_mul_ediv b n
  have a0 := Int.emod_nonneg a (show n ≠ 0 by omega)
  have a1 := Int.emod_lt_of_pos a h
  have b0 := Int.emod_nonneg b (show n ≠ 0 by omega)
  have b1 := Int.emod_lt_of_pos b h
  have e : (a + b) / n = a / n + b / n + (a % n + b % n) / n := by
    have : a + b = (a % n + b % n) + n * (a / n + b / n) := by rw [Int.mul_add]; omega
    rw [this, Int.add_mul_ediv_left _ _ (by omega), Int.add_comm]
  have q0 : 0 ≤ (a % n + b % n) / n := Int.ediv_nonneg (by omega) (by omega)
  have q1 : (a % n + b % n) / n < 2 := by
    apply Int.ediv_lt_of_lt_mul h
    omega
  omega

theorem take_snoc {α : Type} {l : List α} {i : Nat} {x : α} (h : l[i]? = some x) : l.take (i + 1) = l.take i ++ [x] := by
  rw [List.take_add_one, h]; rfl
theorem map_int_get {acc : List Int} {i : Nat} {x : V} (h : (acc.map V.int)[i]? = some x) : ∃ z, acc[i]? = some z ∧ x = .int z := by
  rw [List.getElem?_map] at h
  cases e : acc[i]? with
  | none => rw [e] at h; cases h
  | some z =>
    rw [e] at h
    exact ⟨z, rfl, (Option.some.inj h).symm⟩

theorem Dt.ix {K : PySem.W.Frag} {H : Hp} {v : V} {i : Int} {ds : List PyData} {d : PyData} (h : Dt K H v (.tuple ds)) (e : atD ds i = some d) : ∃ a xs y, v = .ref a ∧ SqT K H a xs ∧ atI xs i = some y ∧ Dt K H y d := by
  cases h with
  | tup hs ha =>
    obtain ⟨y, h1, h2⟩ := ha.at e
    exact ⟨_, _, _, rfl, hs, h1, h2⟩

/-! displays of data -/
def EvD (K : PySem.W.Frag) (te : TE) (σ : L2.St) (H : Hp) (d : PyData) : Prop := ∀ Q : VK, (∀ v H', Same H H' → Dt K H' v d → Q v H') → te σ H Q
def EvDs (K : PySem.W.Frag) (ta : TA) (σ : L2.St) (H : Hp) (ds : List PyData) : Prop := ∀ Q : List V → Hp → Prop, (∀ vs H', Same H H' → DtAll K H' vs ds → Q vs H') → ta σ H Q
section
variable {K : PySem.W.Frag} {σ : L2.St} {H : Hp}
theorem evd_int {i : Int} : EvD K (tC (.int i)) σ H (.int i) := fun _ q => q _ _ (Same.refl _) (.int i)
theorem evd_str {i : Str} : EvD K (tC (.str i)) σ H (.str i) := fun _ q => q _ _ (Same.refl _) (.str i)
theorem evd_non : EvD K (tC .non) σ H .none := fun _ q => q _ _ (Same.refl _) .non
theorem evd_bl {b : Bool} : EvD K (tC (.bl b)) σ H (.bool b) := fun _ q => q _ _ (Same.refl _) (.bl b)
theorem evd_nil : EvDs K tNil σ H [] := fun _ q => q _ _ (Same.refl _) .nil
theorem evd_cons {te : TE} {ta : TA} {d : PyData} {ds : List PyData} (h : EvD K te σ H d) (hr : ∀ H', EvDs K ta σ H' ds) : EvDs K (tCons te ta) σ H (d :: ds) := fun Q q =>
  h _ fun v H1 s1 d1 => hr H1 _ fun vs H2 s2 d2 => q _ _ (s1.trans s2) (.cons (d1.mono (Fz.of_same s2)) d2)
theorem evd_tup {ta : TA} {ds : List PyData} (h : EvDs K ta σ H ds) (hl : ds.length ≤ 1000) : EvD K (tTup ta) σ H (.tuple ds) := fun Q q =>
  h _ fun vs H1 s1 d1 => ⟨szL (by rw [d1.length]; exact hl), fun p hp => q _ _ (s1.trans (same_new hp)) (.tup (SqT.of upd_same) (d1.mono (Fz.new hp)))⟩
end
theorem same_but {b : Addr} {H H1 H2 : Hp} (s : Same H H1) (k : But b H1 H2) (n : H b = none) : Same H H2 := fun a o h => k a o (ne_of_none h n) (s a o h)

theorem rel_ref (a : Addr) : RelV (.ref a) (Value.ref a) := rfl
end Rs
/-! Own exceptions with a field; objects made within a try. -/
namespace Rs
open PySem PySem.Spec PyProof.Rows L2
/-! ### C(e, ..) where what its __init__ lets out is wished for at the caller's slots -/
section
variable {X : Cx} {CX : CXT} {k : Nat} {f C : Addr} {fd : FuncData} {ps : List Str} {sp : Sp} {E : L2.St → XK} {x : Str} {p pos : Pos} {e : Expr} {es : List Expr} {t : TA}
theorem run_makeS {pins : List (Addr × Obj)} {σ : L2.St} {H : Hp} {s : Shared} {Q : VK} {us : List Value} {vs : List V} (M : Mk X.K C f) (F : FnOk X.prog X.w X.K X.mg X.base CX k f fd ps sp) (hr : Room (k + 1) X.A) (hb : Binds X.K fd ps [])
    (hx : PassesAt CX X σ (E σ)) (I : Inv X pins σ H s) (r : Vals vs us)
    (pre : ∀ x dx, H x = none → H dx = none → dx ≠ x → sp (.ref x :: vs) (upd (upd H dx (.own x)) x (.ins C dx [])) (fun v H2 => v = .non ∧ Q (.ref x) H2) (E σ))
    (out : ∀ H1 s1 e s2, Inv X pins σ H1 s1 → L2.CX X.prog X.w X.stack H1 s1 (E σ) e s2 → X.xe e s2) (hCX : CX = L2.CX X.prog X.w) :
    wpAny (model X.prog X.w) X.A (call (.ref C) us) (EP X pins σ Q) X.xe s := by
  subst hCX
  have p0 := pre (s.heap.objs.size + 1) s.heap.objs.size (I.hok.fresh (Nat.le_succ _)) (I.hok.fresh (Nat.le_refl _)) (Nat.ne_of_lt (Nat.lt_succ_self _))
  have J := Inv.made (C := C) I
  have rel : Vals (V.ref (s.heap.objs.size + 1) :: vs) (Value.ref (s.heap.objs.size + 1) :: us) := .cons rfl r
  have n1 : (Value.ref (s.heap.objs.size + 1) :: us).length = ps.length := by rw [← rel.length]; exact F.len _ _ _ _ p0
  have bd := hb _ (Value.ref (s.heap.objs.size + 1) :: us) J.kIn (by rw [List.append_nil]; exact n1)
  rw [List.append_nil] at bd
  have ran := F.run _ X.stack _ _ ⟨Value.ref (s.heap.objs.size + 1) :: us, []⟩ _ _ _ (E σ) (hr.make C us []) (J.env0.make C us []) bd rel p0
  refine wpAny_call (make_map (f := f) I.kIn M.makes M.init (beq_iff_eq.mp M.fn) (codeAny_mono ran fun r s' got => ?_))
  cases r with
  | error e => exact out _ _ _ _ J got
  | ok fl =>
    cases fl with
    | next => exact got.elim
    | brk => exact got.elim
    | cont => exact got.elim
    | ret u =>
      obtain ⟨v, H', J2, rv, rfl, q⟩ := J.after got
      exact ⟨rv, .ref (s.heap.objs.size + 1), H', J2, rfl, q⟩
def tMakeS (C : Addr) (sp : Sp) (E : L2.St → XK) (t : TA) : TE := fun σ H Q => t σ H fun vs H1 => ∀ x dx, H1 x = none → H1 dx = none → dx ≠ x →
  sp (.ref x :: vs) (upd (upd H1 dx (.own x)) x (.ins C dx [])) (fun v H2 => v = .non ∧ Q (.ref x) H2) (E σ)
theorem pe_makeS {W : WX} (M : Mk X.K C f) (F : FnOk X.prog X.w X.K X.mg X.base (L2.CX X.prog X.w) k f fd ps sp) (hr : Room (k + 1) X.A) (hg : Gl X x) (hm : X.mg x = some (.ref C)) (hb : Binds X.K fd ps []) (tk : Takes X W)
    (ha : PA X (e :: es) t) (hdb : (x == ("__debug__" : Str)) = false := by decide) (he : starEach (e :: es) X.env = (false, eval e X.env) :: starEach es X.env := by rfl) (hpl : (backTo pos (starEach es X.env)).any (·.1) = false := by rfl) :
    PE X (.Call (.Name x p) (e :: es) [] pos) (tMakeS C sp (WE W) t) := by
  refine ⟨fun pins s σ H Q I h => wpAny_Call_Name_kw (ld_glob I hg hm ?_ hdb)⟩
  refine PySem.W.callWith_K (h₀ := X.base) I.ok.mod.kin M.kp (thn (ha.run pos pins s σ H _ I h) fun us s1 res => ?_) he hpl
  obtain ⟨vs, H1, I1, r, q⟩ := res
  exact ⟨I1.kIn, run_makeS M F hr hb (passAt tk σ) I1 r q (fun H1 s1 e s2 J c => tk e s2 (XE.of_call J (fun _ _ _ h => h) c)) rfl⟩
end
/-! ### isinstance of a caught exception that has a field -/
structure ExX (K : PySem.W.Frag) (C : Addr) : Prop where
  cl : (PySem.W.clsIn K C).isSome = true
  ga : PySem.W.findIn K (.ref C) "__getattribute__" = some (some (.builtin "BaseException.__getattribute__"))
  gg : PySem.W.findIn K (.ref C) "__getattr__" = some none
  sb : PySem.W.subIn K (.ref C) (.type "BaseException") = some true
  ca : PySem.W.findIn K (.ref C) "__class__" = some (some (.builtin "object.__class__"))
  sp : PySem.W.specialIn K (.builtin "object.__class__") "__get__" = some (some (.builtin "getset_descriptor.__get__"))
  tk : PySem.W.takesIn K (.builtin "object.__class__") = some true
  mo : PySem.W.mroIn K C (.type "object") = some true
section
variable {X : Cx} {pins : List (Addr × Obj)} {σ : L2.St} {H : Hp} {s : Shared} {a C : Addr} {oe : Obj} {cls : Value} {d : Option Addr} {pn : List (Addr × Obj)}
theorem caught_at (I : Inv (X.suite a ((a, oe) :: pn)) pins σ H s) (hz : Zc cls d oe) (hf : ∃ vs, oe.data = .fields vs) {dd : Addr} {fs : List (Str × V)} (ec : cls = .ref C) (ed : d = some dd) (hd : H dd = some (.xd fs)) :
    ∃ od, PySem.W.InstAt s.heap a oe C (some od) := by
  subst ec ed
  obtain ⟨here, _⟩ := I.pin (a, oe) (List.mem_append_left _ List.mem_cons_self)
  obtain ⟨vs, hv⟩ := hf
  obtain ⟨mA, ns, _⟩ := (show ObjOk X.prog X.w H s.heap dd (.xd fs) from I.hok dd _ hd)
  obtain ⟨od, ho, _⟩ := lookIn_ns ns
  exact ⟨od, here, hz.1, by unfold PySem.W.notCls; rw [hv] <;> rfl, by rw [hz.2]; exact ho⟩
def rIsX (K : PySem.W.Frag) (a : Addr) (cls : Value) (d : Option Addr) (C : Addr) : List V → Hp → VK → Prop := fun xs H Q => ∃ (c : V) (cv : Value) (b : Bool) (dd : Addr) (fs : List (Str × V)), xs = [.ref a, c] ∧ ClsV c cv ∧ cls = .ref C ∧ d = some dd ∧ H dd = some (.xd fs) ∧ PySem.W.kitOne K (.ref C) cv = some b ∧ Q (.bl b) H
theorem call_isX (T : ExX X.K C) (hz : Zc cls d oe) (hf : ∃ vs, oe.data = .fields vs) : CallR (X.suite a ((a, oe) :: pn)) (.builtin "isinstance") (rIsX X.K a cls d C) := by
  intro pins s σ H xs us Q I r h
  obtain ⟨c, cv, b, dd, fs, rfl, kc, ec, ed, hd, e, q⟩ := h
  obtain ⟨u1, u2, rfl, r1, r2⟩ := vals2 r
  obtain rfl := kc.eq r2
  cases (show u1 = Value.ref a from r1)
  obtain ⟨od, J⟩ := caught_at I hz hf ec ed hd
  exact PySem.W.kia_one (PySem.W.kitx_exc T.cl T.ga T.gg T.sb T.ca T.sp T.tk T.mo) I.kIn J e (fun z => nomatch z) fun tk => ⟨.bl b, H, I.tok tk, rfl, q⟩
def rIsXT (K : PySem.W.Frag) (a : Addr) (cls : Value) (d : Option Addr) (C : Addr) : List V → Hp → VK → Prop := fun xs H Q => ∃ (tp : Addr) (cs : List V) (ws : List Value) (b : Bool) (dd : Addr) (fs : List (Str × V)), xs = [.ref a, .ref tp] ∧ H tp = some (.tup cs) ∧ Paired ClsV cs ws ∧
  cls = .ref C ∧ d = some dd ∧ H dd = some (.xd fs) ∧ PySem.W.kitAny K (.ref C) ws = some b ∧ Q (.bl b) H
theorem call_isXT (T : ExX X.K C) (hz : Zc cls d oe) (hf : ∃ vs, oe.data = .fields vs) : CallR (X.suite a ((a, oe) :: pn)) (.builtin "isinstance") (rIsXT X.K a cls d C) := by
  intro pins s σ H xs us Q I r h
  obtain ⟨tp, cs, ws, b, dd, fs, rfl, hT, kc, ec, ed, hd, e, q⟩ := h
  obtain ⟨u1, u2, rfl, r1, r2⟩ := vals2 r
  cases (show u1 = Value.ref a from r1)
  cases (show u2 = Value.ref tp from r2)
  obtain ⟨od, J⟩ := caught_at I hz hf ec ed hd
  obtain ⟨_, its, rv, o, h1, h2, n, h3⟩ := (show ObjOk X.prog X.w H s.heap tp (.tup cs) from I.hok tp _ hT)
  obtain rfl := ClsV.all kc rv
  obtain ⟨oc, od', dt, sl⟩ := o
  simp only at h2 h3
  subst h2 h3
  exact PySem.W.kia_tup (PySem.W.kitx_exc T.cl T.ga T.gg T.sb T.ca T.sp T.tk T.mo) I.kIn J h1 e (fun z => nomatch z) fun tk => ⟨.bl b, H, I.tok tk, rfl, q⟩
end
/-! ### the promise of an __init__(self, word): self.word = word -/
def spExc (C : Addr) (f : Str) : Sp := fun vs H Q _ => ∃ (a : Addr) (v : V), vs = [.ref a, v] ∧ H a = some (exo a C none) ∧ ∀ dx, H dx = none → dx ≠ a → Q .non (upd (upd H dx (exd dx [(f, v)])) a (exo a C (some dx)))
/-- the heap behind an exception's making -/
theorem made_heap {H : Hp} {a dx : Addr} {o1 o2 o3 o : HO} (ha : H a = none) (ne : dx ≠ a) : upd (del (upd (upd (upd H a o1) dx o2) a o3) a) dx o = upd H dx o := by
  funext b
  by_cases h1 : b = dx
  · subst h1; rw [upd_same, upd_same]
  · rw [upd_ne h1, upd_ne h1]
    by_cases h2 : b = a
    · subst h2; rw [del_same, ha]
    · rw [del_ne h2, upd_ne h2, upd_ne h1, upd_ne h2]
/-- what C(v) asks, where C's __init__ keeps spExc: its dict is new, the rest as it was -/
theorem make_exc {C : Addr} {f : Str} {v : V} {σ : L2.St} {H : Hp} {Q : XK} (h : ∀ d, H d = none → Q (.ref C) (some d) (upd H d (.xd [(f, v)]))) : tMkO C (spExc C f) [] (tCons (tC v) tNil) σ H Q := by
  refine ⟨by show 1 ≤ 1000; decide, fun a ha => ⟨a, v, rfl, upd_same, fun dx hdx ne => ⟨rfl, dx, [(f, v)], upd_same, by rw [upd_ne ne, upd_same], ?_, ?_⟩⟩⟩
  · rw [upd_ne ne] at hdx
    exact hdx
  · rw [made_heap ha ne]
    exact h dx (by rw [upd_ne ne] at hdx; exact hdx)
end Rs
/-! Values of any kind, told by their outermost shape. -/
namespace Rs
open PySem PySem.Spec PyProof.Rows L2
def Sh (b : Addr) (H : Hp) : V → Prop
  | .non => True
  | .bl _ => True
  | .int _ => True
  | .str _ => True
  | .ref a => a ≠ b ∧ ((∃ xs, H a = some (.lst xs)) ∨ ∃ xs, H a = some (.tup xs))
  | _ => False
theorem Sh.but {b : Addr} {H H' : Hp} {v : V} (h : Sh b H v) (k : But b H H') : Sh b H' v := by
  cases v with
  | ref a =>
    obtain ⟨ne, ⟨xs, e⟩ | ⟨xs, e⟩⟩ := h
    · exact ⟨ne, .inl ⟨xs, k a _ ne e⟩⟩
    · exact ⟨ne, .inr ⟨xs, k a _ ne e⟩⟩
  | non => trivial
  | bl _ => trivial
  | int _ => trivial
  | str _ => trivial
  | byt _ => exact h
  | flt _ => exact h
  | ty _ => exact h
def isInt : V → Bool
  | .int _ => true
  | _ => false
def isBl : V → Bool
  | .bl _ => true
  | _ => false
theorem Sh.ty {K : PySem.W.Frag} {b : Addr} {H : Hp} {v : V} (h : Sh b H v) : ∃ t, TyX K H v (.type t) ∧ kitB t "int" = some (isInt v || isBl v) ∧ kitB t "bool" = some (isBl v) := by
  cases v with
  | non => exact ⟨"NoneType", .base .non, by decide +kernel, by decide +kernel⟩
  | bl x => exact ⟨"bool", .base (.bl x), (by decide +kernel : kitB "bool" "int" = some true), (by decide +kernel : kitB "bool" "bool" = some true)⟩
  | int x => exact ⟨"int", .base (.int x), (by decide +kernel : kitB "int" "int" = some true), (by decide +kernel : kitB "int" "bool" = some false)⟩
  | str x => exact ⟨"str", .base (.str x), (by decide +kernel : kitB "str" "int" = some false), (by decide +kernel : kitB "str" "bool" = some false)⟩
  | ref a =>
    obtain ⟨ne, ⟨xs, e⟩ | ⟨xs, e⟩⟩ := h
    · exact ⟨"list", .base (.lst e), (by decide +kernel : kitB "list" "int" = some false), (by decide +kernel : kitB "list" "bool" = some false)⟩
    · exact ⟨"tuple", .base (.tup e), (by decide +kernel : kitB "tuple" "int" = some false), (by decide +kernel : kitB "tuple" "bool" = some false)⟩
  | byt _ => exact h.elim
  | flt _ => exact h.elim
  | ty _ => exact h.elim
/-- whether a value is an integer that is no bool -/
def spWhole : Sp := fun vs H Q _ => ∃ (b : Addr) (v : V), vs = [v] ∧ Sh b H v ∧ Q (.bl (isInt v)) H
theorem isInt_bl {v : V} : (isInt v || isBl v) = true → (!isBl v) = isInt v := by cases v <;> simp [isInt, isBl]
theorem isInt_no {v : V} : (isInt v || isBl v) = false → false = isInt v := by cases v <;> simp [isInt, isBl]
/-- repr of None and of a text -/
def reprV : V → Str
  | .str x => reprText x
  | _ => "None"
theorem call_repr1 {X : Cx} : CallR X (.builtin "repr") (fun xs H Q => ∃ v, xs = [v] ∧ (v = .non ∨ ∃ x : Str, v = .str x ∧ (reprText x).length ≤ sizeLine) ∧ Q (.str (reprV v)) H) := by
  intro pins s σ H xs us Q I r h
  obtain ⟨v, rfl, rfl | ⟨x, rfl, ln⟩, q⟩ := h
  · obtain ⟨u, rfl, ru⟩ := vals1 r
    obtain rfl : u = Value.none := ru
    exact PySem.P.repr_of_none ⟨.str _, H, I.tok _, ⟨_, rfl⟩, q⟩
  · obtain ⟨u, rfl, t, rfl⟩ := vals1 r
    exact PySem.P.repr_of_str ⟨.str _, H, I.tok _, ⟨_, rfl⟩, q⟩ ln
theorem but_new {b D : Addr} {H H' : Hp} {o : HO} (k : But b H H') (n : H D = none) : But b H (upd H' D o) := fun a u ne e => by
  rw [upd_ne (ne_of_none e n)]
  exact k a u ne e
theorem box_ne {b D : Addr} {H : Hp} {o : HO} (B : Box H b) (ne : D ≠ b) : Box (upd H D o) b := by
  obtain ⟨x, y, z, h, i⟩ := B
  exact ⟨x, y, z, by rw [upd_ne ne.symm]; exact h, i⟩

theorem look1 {f : Str} {v : V} : List.lookup f [(f, v)] = some v := by simp [List.lookup]
theorem Sh.set {b t : Addr} {H : Hp} {v : V} {xs ys : List V} (h : Sh b H v) (e : H t = some (.lst xs)) : Sh b (upd H t (.lst ys)) v := by
  cases v with
  | ref a =>
    obtain ⟨ne, q⟩ := h
    refine ⟨ne, ?_⟩
    by_cases c : a = t
    · subst c
      exact .inl ⟨_, upd_same⟩
    · rw [upd_ne c]
      exact q
  | non => trivial
  | bl _ => trivial
  | int _ => trivial
  | str _ => trivial
  | byt _ => exact h
  | flt _ => exact h
  | ty _ => exact h
end Rs
/-! == and != by an own __eq__, with either answer, of anything. -/
namespace Rs
open PySem PySem.Spec PyProof.Rows L2
/-- what of the class at C: its own __eq__ is g, its != is object's -/
structure OwnQ (K : PySem.W.Frag) (C g : Addr) : Prop where
  eq : PySem.W.findIn K (.ref C) "__eq__" = some (some (.ref g))
  fn : PySem.W.isFn K (.ref g) = true
  ne : PySem.W.findIn K (.ref C) "__ne__" = some (some (.builtin "object.__ne__"))
  mo : PySem.W.mroIn K C (.type "object") = some true
section
variable {M : Model} {prog : Program} {w : World} {A : Around} {E : Value → Shared → Prop} {s : Shared} {K : PySem.W.Frag} {x C f L : Addr} {ox : Obj} {od : Option Obj} {h₀ : Heap} {m : Str → Option Value} {b tb : Value}
theorem ifBound_objNe {args : List Value} {Q : Option Value → Shared → Prop} (X : K.In s.heap) (I : PySem.W.InstAt s.heap x ox C od) (hs : PySem.W.findIn K (.ref C) "__ne__" = some (some (.builtin "object.__ne__")))
    (h : wpAny M A (call (.builtin "object.__ne__") (.ref x :: args)) (fun v => Q (some v)) E s) : wpAny M A (callSpecialIfBound? (.ref x) "__ne__" args) Q E s := by
  simp only [callSpecialIfBound?, bindSpecialIfBound?]
  refine wpAny_holding (wpAny_bind (wpAny_bind (wpAny_bind (I.type.here ((PySem.W.looks_findIn X hs).here ?_)))))
  refine wpAny_bind (wpAny_askSetting (wpAny_ite ?_))
  have fin : wpAny M A (call (.builtin "object.__ne__") ([.ref x] ++ args) >>= fun v => pure (some v)) Q E s := wpAny_bind (wpAny_mono h (fun v s' h' => wpAny_pure h') fun _ _ h' => h')
  split
  · exact wpAny_bind (wpAny_of_eq (F.cmp_object.ne.bind _) (wpAny_pure (by exact fin)))
  · exact wpAny_tryCatch (wpAny_bind (wpAny_of_eq (F.cmp_object.ne.bind _) (wpAny_pure (by exact fin))))
theorem objNe_entry (hu : A.units < cLine) (X : K.In s.heap) (I : PySem.W.InstAt s.heap x ox C od) (O : OwnQ K C f) {Q : Fin → Shared → Prop}
    (hcall : wpAny (model prog w) A (call (.ref f) [.ref x, b]) (fun v s' => ∃ r, v = .bool r ∧ Q (.done (.ret (.bool (!r)))) s') E s) :
    wpAny (model prog w) A (Builtin.«object.__ne__» ⟨[.ref x, b], []⟩) Q E s := by
  unfold Builtin.«object.__ne__»
  repeat (first
    | with_reducible refine wpAny_cRoomFor hu ?_
    | (refine wpAny_bind (m := callSpecialIfBound? (.ref x) (Str.ofString "__eq__") [b])
        (PySem.W.ifBound_K X I O.eq O.fn (wpAny_mono hcall (fun v s' hr => by
          obtain ⟨r, rfl, hq⟩ := hr
          repeat (first | exact hq | exact wpAny_pure hq | exact wpAny_truthy_bool hq | (refine wpAny_bind (m := truthy (.bool _)) (wpAny_truthy_bool ?_)) | wp_step)) fun _ _ e => e)))
    | wp_step)
theorem tryCompare_neO (hu : A.units + 1 < cLine) (X : K.In s.heap) (I : PySem.W.InstAt s.heap x ox C od) (O : OwnQ K C f) {Q : Option Value → Shared → Prop}
    (hcall : wpAny (model prog w) A.in1 (call (.ref f) [.ref x, b]) (fun v s' => ∃ r, v = .bool r ∧ Q (some (.bool (!r))) s') E s) : wpAny (model prog w) A (tryCompare (.ref x) "__ne__" b) Q E s := by
  simp only [tryCompare]
  refine wpAny_bind (ifBound_objNe X I O.ne (wpAny_call (codeAny_call_builtin F.cmp_object.ne.plain F.cmpEntry_ne
    (PySem.W.check_slot F.cmpKind_ne F.cmpSplit_ne (I.type.andThen (PySem.W.looks_mroIn X O.mo)) (F.cmpArgs_ne _ _)
      (objNe_entry (A := A.in1) hu X I O (wpAny_mono hcall (fun v s' hv => ?_) fun _ _ e => e))))))
  obtain ⟨r, rfl, hq⟩ := hv
  first | exact ⟨r, rfl, wpAny_pure hq⟩ | exact ⟨r, rfl, wpAny_pure (wpAny_pure hq)⟩ | exact ⟨r, rfl, hq⟩
theorem rc_neO (hu : A.units + 1 < cLine) (X : K.In s.heap) (I : PySem.W.InstAt s.heap x ox C od) (O : OwnQ K C f) (hb : PySem.W.Looks (model prog w) s.heap (typeOf b) tb) (hn : PySem.W.notFirst K C tb = true) {Q : Value → Shared → Prop}
    (hcall : wpAny (model prog w) A.in1 (call (.ref f) [.ref x, b]) (fun v s' => ∃ r, v = .bool r ∧ Q (.bool (!r)) s') E s) : wpAny (model prog w) A (richCompare .NotEq (.ref x) b) Q E s := by
  have one : wpAny (model prog w) A (tryCompare (.ref x) "__ne__" b) (fun r s' => ∃ v, r = some v ∧ Q v s') E s := tryCompare_neO hu X I O (wpAny_mono hcall (fun v s' hv => by
    obtain ⟨r, rfl, hq⟩ := hv
    exact ⟨r, rfl, _, rfl, hq⟩) fun _ _ e => e)
  unfold richCompare
  simp only [oneThing_ref]
  refine wpAny_holding (wpAny_bind (wpAny_cRoomFor (Nat.lt_of_succ_lt hu) ?_))
  refine wpAny_bind (I.type.here (wpAny_bind (hb.here ?_)))
  split
  · rename_i q
    have e : PySem.W.subIn K tb (.ref C) = some false := by
      rcases Bool.or_eq_true_iff.mp hn with e | e
      · rw [beq_iff_eq.mp e] at q; simp at q
      · exact beq_iff_eq.mp e
    refine wpAny_bind ((PySem.W.looks_subIn X e).here ?_)
    simp only [Bool.false_eq_true, if_false]
    refine wpAny_bind (wpAny_mono one (fun r s' z => ?_) fun _ _ e => e)
    obtain ⟨v, rfl, hq⟩ := z
    exact wpAny_pure hq
  · refine wpAny_bind (wpAny_pure ?_)
    simp only [Bool.false_eq_true, if_false]
    refine wpAny_bind (wpAny_mono one (fun r s' z => ?_) fun _ _ e => e)
    obtain ⟨v, rfl, hq⟩ := z
    exact wpAny_pure hq
end
theorem notFirst_ty {K : PySem.W.Frag} {C : Addr} {T : String} {ns : List String} (e : fastBuiltinMro T = some (ns.map Value.type)) : PySem.W.notFirst K C (.type T) = true := by
  have : PySem.W.subIn K (.type T) (.ref C) = some false := by
    show (fastBuiltinMro T).map (·.contains (.ref C)) = some false
    rw [e]
    simp
  unfold PySem.W.notFirst
  rw [this]
  simp
theorem notFirst_self {K : PySem.W.Frag} {C : Addr} : PySem.W.notFirst K C (.ref C) = true := by simp [PySem.W.notFirst]
theorem nf_none {K : PySem.W.Frag} {C : Addr} : PySem.W.notFirst K C (.type "NoneType") = true := notFirst_ty (ns := ["NoneType", "object"]) (by decide +kernel)
theorem nf_bool {K : PySem.W.Frag} {C : Addr} : PySem.W.notFirst K C (.type "bool") = true := notFirst_ty (ns := ["bool", "int", "object"]) (by decide +kernel)
theorem nf_int {K : PySem.W.Frag} {C : Addr} : PySem.W.notFirst K C (.type "int") = true := notFirst_ty (ns := ["int", "object"]) (by decide +kernel)
theorem nf_str {K : PySem.W.Frag} {C : Addr} : PySem.W.notFirst K C (.type "str") = true := notFirst_ty (ns := ["str", "object"]) (by decide +kernel)
theorem nf_list {K : PySem.W.Frag} {C : Addr} : PySem.W.notFirst K C (.type "list") = true := notFirst_ty (ns := ["list", "object"]) (by decide +kernel)
theorem nf_tuple {K : PySem.W.Frag} {C : Addr} : PySem.W.notFirst K C (.type "tuple") = true := notFirst_ty (ns := ["tuple", "object"]) (by decide +kernel)
section
variable {X : Cx} {CX : CXT} {pins : List (Addr × Obj)} {σ : L2.St} {H : Hp} {s : Shared} {C g : Addr} {n : Nat} {sp : Sp} {E : XK} {x : V} {u t : Value}
theorem ty_looks {M : Model} (I : Inv X pins σ H s) (rx : RelV x u) (ty : TyX X.K H x t) : PySem.W.Looks M s.heap (typeOf u) t := by
  obtain ⟨P, Z, hp, _⟩ := kit_of I rx ty
  exact Z.ty _ _ I.kIn hp
theorem ins_at {a dx : Addr} {fs : List (Str × V)} (I : Inv X pins σ H s) (h : H a = some (.ins C dx fs)) : ∃ ox od, PySem.W.InstAt s.heap a ox C od := by
  obtain ⟨mA, J, _⟩ := ins_get I.hok h
  obtain ⟨od, J, _⟩ := J.look
  exact ⟨_, _, J⟩
/-- x == y, x an instance of the class at C with its own __eq__ -/
def rEqO (K : PySem.W.Frag) (C : Addr) (sp : Sp) (E : XK) : R2 := fun x y H Q => ∃ a dx fs tb, x = .ref a ∧ H a = some (.ins C dx fs) ∧ TyX K H y tb ∧ PySem.W.notFirst K C tb = true ∧ sp [x, y] H Q E
theorem op_eqO (O : OwnQ X.K C g) (F : FnR X.prog X.w X.K X.mg X.base CX n g sp) (hr : Room n X.A) (hx : Passes CX X E) : OpR X (compareOp .Eq) (rEqO X.K C sp E) := by
  intro pins s σ H x y v u Q I rx ry h
  obtain ⟨a, dx, fs, tb, rfl, ha, ty, hn, q⟩ := h
  cases (show v = Value.ref a from rx)
  obtain ⟨ox, od, J⟩ := ins_at I ha
  obtain ⟨m, hF⟩ := I.fr
  show wpAny (model X.prog X.w) X.A (richCompare .Eq (.ref a) u) (EP X pins σ Q) X.xe s
  refine PySem.W.cmp_K (op := .Eq) (tb := tb) hr.units0 hF I.ok.mod.kin J (ty_looks I ry ty) hn O.eq O.fn ?_
  refine wpAny_mono (wpAny_call (run_fnR (us := [.ref a, u]) (vs := [.ref a, y]) F hr hx I (.cons rfl (.cons ry .nil)) q)) (fun w s' z => ?_) fun _ _ x => x
  obtain ⟨z', H', I', rz, qz⟩ := z
  exact SlX.cmpback rz ⟨z', H', I', rz, qz⟩
/-- x != y -/
def rNeO (K : PySem.W.Frag) (C : Addr) (sp : Sp) (E : XK) : R2 := fun x y H Q => ∃ a dx fs tb, x = .ref a ∧ H a = some (.ins C dx fs) ∧ TyX K H y tb ∧ PySem.W.notFirst K C tb = true ∧ sp [x, y] H (fun z H' => ∃ r, z = .bl r ∧ Q (.bl (!r)) H') E
theorem op_neO (O : OwnQ X.K C g) (F : FnR X.prog X.w X.K X.mg X.base CX n g sp) (hr : Room (n + 1) X.A) (hx : Passes CX X E) : OpR X (compareOp .NotEq) (rNeO X.K C sp E) := by
  intro pins s σ H x y v u Q I rx ry h
  obtain ⟨a, dx, fs, tb, rfl, ha, ty, hn, q⟩ := h
  cases (show v = Value.ref a from rx)
  obtain ⟨ox, od, J⟩ := ins_at I ha
  show wpAny (model X.prog X.w) X.A (richCompare .NotEq (.ref a) u) (EP X pins σ Q) X.xe s
  have hr1 : Room n X.A.in1 := Room.in1 hr
  refine rc_neO (C := C) (f := g) (tb := tb) (by have := hr.un; omega) I.kIn J O (ty_looks I ry ty) hn ?_
  refine wpAny_mono (wpAny_call (SlX.run_at (us := [.ref a, u]) (ws := [.ref a, y]) F hr1 I.env0.in1 hx I (.cons rfl (.cons ry .nil)) q)) (fun w s' z => ?_) fun _ _ x => x
  obtain ⟨z', H', I', rz, r, ez, qz⟩ := z
  subst ez
  cases (show w = Value.bool r from rz)
  exact ⟨r, rfl, .bl (!r), H', I', rfl, qz⟩
end
end Rs
/-! A built-in value == an instance with an own __eq__; such an instance in a tuple. -/
namespace Rs
open PySem PySem.Spec PyProof.Rows PySem.SeqAt L2 SeqRoads2 MeetsSeq MeetsSeq2 MeetsSeq3
open AutoSeq1 (wpAny_loadPart')
section
variable {prog : Program} {w : World} {A : Around} {E : Value → Shared → Prop} {s : Shared} {K : PySem.W.Frag} {x C f : Addr} {ox : Obj} {od : Option Obj}
theorem rc_eqR {T id : String} {u : Value} {Q : Value → Shared → Prop} (hu : A.units < cLine) (X : K.In s.heap) (I : PySem.W.InstAt s.heap x ox C od) (O : OwnQ K C f) (hT : s.TypeIs u T) (S : Slot T "__eq__" id)
    (hm : PySem.W.mroIn K C (.type T) = some false) (decl : wpAny (model prog w) A (call (.builtin id) [u, .ref x]) (fun v s' => v = .notImplemented ∧ s' = s) E s)
    (h : wpAny (model prog w) A (call (.ref f) [.ref x, u]) (PySem.W.CmpBack Q) E s) : wpAny (model prog w) A (richCompare .Eq u (.ref x)) Q E s := by
  have one : wpAny (model prog w) A (tryCompare u "__eq__" (.ref x)) (fun r s' => r = none ∧ s' = s) E s :=
    wpAny_tryCompare_declines hT S (wpAny_mono decl (fun v s' z => ⟨z.1, rfl, z.2⟩) fun _ _ e => e)
  have two : wpAny (model prog w) A (tryCompare (.ref x) "__eq__" u) (fun r s' => ∃ v, r = some v ∧ Q v s') E s := by
    unfold tryCompare
    refine wpAny_bind (PySem.W.ifBound_K X I O.eq O.fn (wpAny_mono h (fun v s' hv => ?_) fun _ _ e => e))
    cases v <;> first | exact hv.elim | exact wpAny_pure ⟨_, rfl, hv⟩
  simp only [richCompare, cmpInfo_Eq, hT.oneThing_none]
  refine wpAny_holding (wpAny_bind (wpAny_cRoomFor hu ?_))
  refine wpAny_bind (wpAny_typeOf hT ?_)
  refine wpAny_bind (I.type.here ?_)
  split
  · refine wpAny_bind ((PySem.W.looks_subIn X (t := .ref C) (base := .type T) hm).here ?_)
    simp only [Bool.false_eq_true, if_false, Bool.not_false, if_true]
    refine wpAny_bind (m := tryCompare u _ (.ref x)) (wpAny_mono one (fun r s1 z => ?_) fun _ _ e => e)
    obtain ⟨z1, z2⟩ := z
    subst z1
    subst z2
    refine wpAny_bind (m := tryCompare (.ref x) _ u) (wpAny_mono two (fun r s2 z => ?_) fun _ _ e => e)
    obtain ⟨v, rfl, hq⟩ := z
    exact wpAny_pure hq
  · rename_i q
    exact absurd (by simp) q
theorem str_eq_ins (a : Str) (t : Tok) (x C dx : Addr) : Meets (Builtin.«str.__eq__» ⟨[.str a t, .ref x], []⟩) (fun _ R s => s.heap.get? x = some (PySem.W.instObj C dx) ∧ R (.ok (.ret .notImplemented)) s) :=
  .of_wp fun prog w A R s h => by
    obtain ⟨hp, g, d, tk, os⟩ := s; obtain ⟨hl, h⟩ := h
    unfold PySem.W.instObj at hl
    wp_walk using wpAny_loadPart' hl
    exact ⟨_, rfl, h⟩
theorem wpAny_sub' {M : Model} {A : Around} {E : Value → Shared → Prop} {h : Heap} {g : Array GenState} {d : Drawn} {t : Nat} {os : OsState} {a b : Value} {r : Bool} {Q : Bool → Shared → Prop}
    (x : PySem.W.Looks M h (isSubtype a b) r) (hq : Q r ⟨h, g, d, t, os⟩) : wpAny M A (isSubtype a b) Q E ⟨h, g, d, t, os⟩ := PySem.W.Looks.here (s := ⟨h, g, d, t, os⟩) x hq
theorem tuple_eq_ins (l x C dx : Addr) (hm : PySem.W.mroIn K C (.type "tuple") = some false) :
    Meets (Builtin.«tuple.__eq__» ⟨[.ref l, .ref x], []⟩) (fun _ R s => K.In s.heap ∧ s.heap.get? x = some (PySem.W.instObj C dx) ∧ R (.ok (.ret .notImplemented)) s) :=
  .of_wp fun prog w A R s h => by
    obtain ⟨hp, g, d, tk, os⟩ := s; obtain ⟨X, hl, h⟩ := h
    unfold PySem.W.instObj at hl
    have L : PySem.W.Looks (model prog w) hp (isSubtype (.ref C) (.type "tuple")) false := PySem.W.looks_subIn X hm
    wp_walk using wpAny_loadPart' hl, wpAny_sub' L
    exact ⟨_, rfl, h⟩
theorem list_eq_ins (l x C dx : Addr) (hm : PySem.W.mroIn K C (.type "list") = some false) :
    Meets (Builtin.«list.__eq__» ⟨[.ref l, .ref x], []⟩) (fun _ R s => K.In s.heap ∧ s.heap.get? x = some (PySem.W.instObj C dx) ∧ R (.ok (.ret .notImplemented)) s) :=
  .of_wp fun prog w A R s h => by
    obtain ⟨hp, g, d, tk, os⟩ := s; obtain ⟨X, hl, h⟩ := h
    unfold PySem.W.instObj at hl
    have L : PySem.W.Looks (model prog w) hp (isSubtype (.ref C) (.type "list")) false := PySem.W.looks_subIn X hm
    wp_walk using wpAny_loadPart' hl, wpAny_sub' L
    exact ⟨_, rfl, h⟩
theorem int_eq_ins (i : Int) (t : Tok) (x C dx : Addr) : Meets (Builtin.«int.__eq__» ⟨[.int i t, .ref x], []⟩) (fun _ R s => s.heap.get? x = some (PySem.W.instObj C dx) ∧ R (.ok (.ret .notImplemented)) s) :=
  .of_wp fun prog w A R s h => by
    obtain ⟨hp, g, d, tk, os⟩ := s; obtain ⟨hl, h⟩ := h
    unfold PySem.W.instObj at hl
    wp_walk using wpAny_loadPart' hl
    exact ⟨_, rfl, h⟩
/-- u in a builtin's loop against an instance -/
theorem eqBool_ins {u : Value} {Q : Bool → Shared → Prop} (hne : (u == Value.ref x) = false) (h : wpAny (model prog w) A (richCompare .Eq u (.ref x)) (fun v s' => ∃ r, v = .bool r ∧ Q r s') E s) : wpAny (model prog w) A (eqBool u (.ref x)) Q E s := by
  unfold eqBool
  refine wpAny_holding ?_
  refine wpAny_ite_split (fun hab => by rw [hne] at hab; cases hab) (fun _ => ?_)
  cases u <;> (
    refine wpAny_bind (wpAny_mono h (fun v s' hv => ?_) fun _ _ x => x)
    obtain ⟨r, rfl, q⟩ := hv
    exact wpAny_truthy_bool q)
theorem tuple_inG {R : Result → Shared → Prop} (l : Addr) (items : Array Value) (n : Nat) (dd : Option Addr) (sl : Array (Option Value)) (y : Value) (I : Shared → Prop)
    (turn : ∀ z, z ∈ items → ∀ s, I s → wpAny (model prog w) A.in1 (eqBool z y) (fun r s' => r = false ∧ I s') (fun e s' => R (.error e) s') s)
    (fin : ∀ s, I s → R (.ok (.ret (.bool false))) s) (hl : s.heap.get? l = some { cls := .type "tuple", dict := dd, data := .seq items n, slots := sl }) (h : I s) :
    wpAny (model prog w) A.in1 (Builtin.«tuple.__contains__» ⟨[.ref l, y], []⟩) (GQ.FinOf prog w A R) (fun e s' => R (.error e) s') s := by
  obtain ⟨hp, g, d, tk, os⟩ := s
  wp_walk using wpAny_loadPart' hl, wpAny_forIn_array _ (fun rest b s' => b.1 = none ∧ I s' ∧ (∀ z, z ∈ rest → z ∈ items)) _

  case turn =>
    rintro z rest b s' ⟨hb, hI, hmem⟩
    refine wpAny_bind (wpAny_mono (turn z (hmem z (List.mem_cons_self ..)) s' hI) (fun r s2 q => ?_) fun _ _ x => x)
    obtain ⟨rfl, q2⟩ := q
    wp_walk
    exact ⟨rfl, q2, fun z hz => hmem z (List.mem_cons_of_mem _ hz)⟩
  case fin =>
    rintro ⟨b1, b2⟩ s' ⟨hb, hI, hmem⟩
    simp only at hb
    subst hb
    have hR := fin s' hI
    wp_walk
    exact hR
  case h =>
    exact ⟨rfl, h, fun z hz => by simpa using hz⟩
theorem in_tupG {l : Addr} {items : Array Value} {y : Value} {Q : Value → Shared → Prop} (I : Shared → Prop) (hl : s.heap.IsTuple l items)
    (turn : ∀ z, z ∈ items → ∀ s, I s → wpAny (model prog w) A.in1 (eqBool z y) (fun r s' => r = false ∧ I s') E s) (fin : ∀ s, I s → Q (.bool false) s) (h : I s) :
    wpAny (model prog w) A (compareOp .In y (.ref l)) Q E s := by
  obtain ⟨⟨cls, dd, data, sl⟩, ho, hc, n, hd⟩ := id hl
  simp only at hc hd
  subst hc hd
  show wpAny _ A (do return .bool (← contains (.ref l) y)) Q E s
  refine wpAny_bind (wpAny_contains_slot ⟨_, ho, rfl⟩ F.slot_tuple_contains (wpAny_mono (GQ.call_here F.slot_tuple_contains ⟨_, ho, rfl⟩ F.entry_tuple_contains (F.args_tuple_contains_2 _ _)
    (tuple_inG (R := wants (fun v s' => ∃ b, v = .bool b ∧ Q (.bool b) s') E) l items n dd sl y I turn (fun s' q => ⟨_, rfl, fin s' q⟩) ho h)) (fun v s' hv => ?_) fun _ _ e => e))
  obtain ⟨b, rfl, hq⟩ := hv
  exact wpAny_truthy_bool (wpAny_pure hq)
end
/-- the class at C is no subclass of these -/
structure OwnN (K : PySem.W.Frag) (C : Addr) : Prop where
  no : PySem.W.mroIn K C (.type "NoneType") = some false
  st : PySem.W.mroIn K C (.type "str") = some false
  tu : PySem.W.mroIn K C (.type "tuple") = some false
  li : PySem.W.mroIn K C (.type "list") = some false
  it : PySem.W.mroIn K C (.type "int") = some false
theorem Vals.of_mem : ∀ {xs : List V} {us : List Value}, Vals xs us → ∀ {u : Value}, u ∈ us → ∃ x, x ∈ xs ∧ RelV x u
  | _, _, .nil, _, h => by cases h
  | _, _, .cons r t, u, h => by
    rcases List.mem_cons.mp h with e | h
    · subst e
      exact ⟨_, List.mem_cons_self, r⟩
    · obtain ⟨x, hx, k⟩ := Vals.of_mem t h
      exact ⟨x, List.mem_cons_of_mem _ hx, k⟩
section
variable {X : Cx} {CX : CXT} {pins : List (Addr × Obj)} {σ : L2.St} {H : Hp} {s : Shared} {C g : Addr} {n : Nat} {sp : Sp} {E : XK}
theorem ins_obj {a dx : Addr} {fs : List (Str × V)} (I : Inv X pins σ H s) (h : H a = some (.ins C dx fs)) : ∃ od, PySem.W.InstAt s.heap a (PySem.W.instObj C dx) C od := by
  obtain ⟨mA, J, _⟩ := ins_get I.hok h
  obtain ⟨od, J, _⟩ := J.look
  exact ⟨_, J⟩
/-- kinds of values that an instance is compared with from the left -/
def OthV (K : PySem.W.Frag) (H : Hp) (z : V) : Prop := z = .non ∨ (∃ i, z = .str i) ∨ (∃ i, z = .int i) ∨ ∃ p ys, z = .ref p ∧ SqT K H p ys
def falseO (sp : Sp) (E : XK) (a : Addr) (z : V) (H : Hp) : Prop := sp [.ref a, z] H (fun v H' => v = .bl false ∧ H' = H) E
theorem rc_oth {A : Around} {a dx : Addr} {fs : List (Str × V)} {z : V} {u : Value} (O : OwnQ X.K C g) (N : OwnN X.K C) (FG : FnR X.prog X.w X.K X.mg X.base CX n g sp) (hr : Room n A) (e0 : Env0 X.prog X.w X.K X.mg X.base A X.stack s H) (hx : Passes CX X E)
    (I : Inv X pins σ H s) (ha : H a = some (.ins C dx fs)) (rz : RelV z u) (oz : OthV X.K H z) (q : falseO sp E a z H) :
    wpAny (model X.prog X.w) A (eqBool u (.ref a)) (fun r s' => r = false ∧ Inv X pins σ H s') X.xe s := by
  obtain ⟨od, J⟩ := ins_obj I ha
  have run : wpAny (model X.prog X.w) A (call (.ref g) [.ref a, u]) (PySem.W.CmpBack (fun v s' => ∃ r, v = .bool r ∧ r = false ∧ Inv X pins σ H s')) X.xe s := by
    refine wpAny_mono (wpAny_call (SlX.run_at (us := [.ref a, u]) (ws := [.ref a, z]) FG hr e0 hx I (.cons rfl (.cons rz .nil)) q)) (fun w s' y => ?_) fun _ _ x => x
    obtain ⟨z', H', I', ry, e1, e2⟩ := y
    subst e1
    subst e2
    cases (show w = Value.bool false from ry)
    exact ⟨false, rfl, rfl, I'⟩
  rcases oz with rfl | ⟨i, rfl⟩ | ⟨i, rfl⟩ | ⟨p, ys, rfl, hp⟩
  · cases (show u = Value.none from rz)
    exact eqBool_ins rfl (rc_eqR hr.units0 I.kIn J O (show s.TypeIs .none "NoneType" from rfl) F.slot_NoneType_eq N.no (call_gives F.slot_NoneType_eq rfl F.entry_NoneType_eq (F.args_NoneType_eq_2 _ _) (NoneType___eq___none_ref_0 a) ⟨rfl, rfl⟩) run)
  · obtain ⟨t, rfl⟩ := (show ∃ t, u = Value.str i t from rz)
    exact eqBool_ins rfl (rc_eqR hr.units0 I.kIn J O (show s.TypeIs (.str i t) "str" from rfl) F.slot_str_eq N.st (call_meets F.slot_str_eq rfl F.entry_str_eq (F.args_str_eq_2 _ _) (str_eq_ins i t a C dx) ⟨J.at_, rfl, rfl⟩) run)
  · obtain ⟨t, rfl⟩ := (show ∃ t, u = Value.int i t from rz)
    exact eqBool_ins rfl (rc_eqR hr.units0 I.kIn J O (show s.TypeIs (.int i t) "int" from rfl) F.slot_int_eq N.it (call_meets F.slot_int_eq rfl F.entry_int_eq (F.args_int_eq_2 _ _) (int_eq_ins i t a C dx) ⟨J.at_, rfl, rfl⟩) run)
  · cases (show u = Value.ref p from rz)
    obtain ⟨its, rv, ⟨o, ho, hc, _⟩, _⟩ := I.tuple hp
    have hne : (Value.ref p == Value.ref a) = false := by
      have : p ≠ a := by
        rintro rfl
        have e := J.at_
        rw [ho] at e
        cases e
        cases hc
      simp [this]
    exact eqBool_ins hne (rc_eqR hr.units0 I.kIn J O (show s.TypeIs (.ref p) "tuple" from ⟨_, ho, hc⟩) F.slot_tuple_eq N.tu (call_meets F.slot_tuple_eq ⟨_, ho, hc⟩ F.entry_tuple_eq (F.args_tuple_eq_2 _ _) (tuple_eq_ins p a C dx N.tu) ⟨I.kIn, J.at_, rfl, rfl⟩) run)
/-- x in a tuple of other things -/
def rInO (K : PySem.W.Frag) (C : Addr) (sp : Sp) (E : XK) : R2 := fun x y H Q => ∃ a dx fs t xs, x = .ref a ∧ H a = some (.ins C dx fs) ∧ y = .ref t ∧ SqT K H t xs ∧ (∀ z ∈ xs, OthV K H z ∧ falseO sp E a z H) ∧ Q (.bl false) H
theorem op_inO (O : OwnQ X.K C g) (N : OwnN X.K C) (F : FnR X.prog X.w X.K X.mg X.base CX n g sp) (hr : Room (n + 2) X.A) (hx : Passes CX X E) : OpR X (compareOp .In) (rInO X.K C sp E) := by
  intro pins s σ H x y v u Q I rx ry h
  obtain ⟨a, dx, fs, t, xs, rfl, ha, rfl, ht, hz, q⟩ := h
  cases (show v = Value.ref a from rx)
  cases (show u = Value.ref t from ry)
  obtain ⟨its, rv, e, _⟩ := I.tuple ht
  have hr1 : Room n X.A.in1 := Room.in1 (hr.mono (by omega))
  refine in_tupG (fun s' => Inv X pins σ H s') e (fun z hm s' I' => ?_) (fun s' I' => ⟨.bl false, H, I', rfl, q⟩) I
  obtain ⟨zz, hzz, rz⟩ := Vals.of_mem rv (by simpa using hm)
  exact rc_oth O N F hr1 I'.env0.in1 hx I' ha rz (hz zz hzz).1 (hz zz hzz).2
end
end Rs
/-! What a class with its own __eq__ is to isinstance; any value in a tuple of texts. -/
namespace Rs
open PySem PySem.Spec PyProof.Rows L2
theorem fnR {P : Program} {w : World} {K : PySem.W.Frag} {mg : Str → Option Value} {base : Heap} {CX : CXT} {k : Nat} {f : Addr} {fd : FuncData} {ps : List Str} {sp : Sp} (F : FnOk P w K mg base CX k f fd ps sp) (hb : Binds K fd ps []) : FnR P w K mg base CX k f sp :=
  (F.raw hb .nil).imp fun vs H Q E h => by
    show sp (vs ++ []) H Q E
    rw [List.append_nil]
    exact h
structure OwnI (K : PySem.W.Frag) (C : Addr) : Prop where
  cl : (PySem.W.clsIn K C).isSome = true
  tp : PySem.W.typeIn K (.ref C) = some (.type "type")
  ca : PySem.W.findIn K (.ref C) "__class__" = some (some (.builtin "object.__class__"))
  sp : PySem.W.specialIn K (.builtin "object.__class__") "__get__" = some (some (.builtin "getset_descriptor.__get__"))
  tk : PySem.W.takesIn K (.builtin "object.__class__") = some true
  mo : PySem.W.mroIn K C (.type "object") = some true
theorem OwnI.ty {K : PySem.W.Frag} {C a dx : Addr} {fs : List (Str × V)} {H : Hp} (h : OwnI K C) (c : Cls K C) (e : H a = some (.ins C dx fs)) : TyX K H (.ref a) (.ref C) := .base (.ins e c h.ca h.sp h.tk h.mo)
theorem kit_self {K : PySem.W.Frag} {C : Addr} : PySem.W.kitOne K (.ref C) (.ref C) = some true := by simp [PySem.W.kitOne]
theorem OwnI.no {K : PySem.W.Frag} {C : Addr} {T : String} {ns : List String} (h : OwnI K C) (e : fastBuiltinMro T = some (ns.map Value.type)) : PySem.W.kitOne K (.type T) (.ref C) = some false := by
  have h1 : PySem.W.subIn K (.type T) (.ref C) = some false := by
    show (fastBuiltinMro T).map (·.contains (.ref C)) = some false
    rw [e]
    simp
  unfold PySem.W.kitOne PySem.W.kitCls
  simp [h.cl, h.tp, h1]
/-- the built-in kinds that stand beside own instances -/
inductive BT : String → Prop
  | non : BT "NoneType"
  | bl : BT "bool"
  | int : BT "int"
  | str : BT "str"
  | lst : BT "list"
  | tup : BT "tuple"
theorem BT.nf {K : PySem.W.Frag} {C : Addr} {T : String} (h : BT T) : PySem.W.notFirst K C (.type T) = true := by
  cases h
  · exact nf_none
  · exact nf_bool
  · exact nf_int
  · exact nf_str
  · exact nf_list
  · exact nf_tuple
theorem OwnI.bt {K : PySem.W.Frag} {C : Addr} {T : String} (h : OwnI K C) (b : BT T) : PySem.W.kitOne K (.type T) (.ref C) = some false := by
  cases b
  · exact h.no (ns := ["NoneType", "object"]) (by decide +kernel)
  · exact h.no (ns := ["bool", "int", "object"]) (by decide +kernel)
  · exact h.no (ns := ["int", "object"]) (by decide +kernel)
  · exact h.no (ns := ["str", "object"]) (by decide +kernel)
  · exact h.no (ns := ["list", "object"]) (by decide +kernel)
  · exact h.no (ns := ["tuple", "object"]) (by decide +kernel)
theorem Sh.bt {K : PySem.W.Frag} {b : Addr} {H : Hp} {v : V} (h : Sh b H v) : ∃ T, TyX K H v (.type T) ∧ BT T := by
  cases v with
  | non => exact ⟨_, .base .non, .non⟩
  | bl x => exact ⟨_, .base (.bl x), .bl⟩
  | int x => exact ⟨_, .base (.int x), .int⟩
  | str x => exact ⟨_, .base (.str x), .str⟩
  | ref a =>
    obtain ⟨ne, ⟨xs, e⟩ | ⟨xs, e⟩⟩ := h
    · exact ⟨_, .base (.lst e), .lst⟩
    · exact ⟨_, .base (.tup e), .tup⟩
  | byt _ => exact h.elim
  | flt _ => exact h.elim
  | ty _ => exact h.elim
/-- whether a value is one of some texts -/
def isOne (ys : List Str) : V → Bool
  | .str x => ys.any (· == x)
  | _ => false
def eqText (v : V) : Value → Bool
  | .str c _ => (match v with
    | .str x => c == x
    | _ => false)
  | _ => false
theorem any_text {v : V} : ∀ {ys : List Str} {us : List Value}, Vals (ys.map V.str) us → us.any (eqText v) = isOne ys v
  | [], _, .nil => by cases v <;> rfl
  | y :: ys, _, .cons r t => by
    obtain ⟨k, rfl⟩ := r
    have ih := any_text (v := v) t
    rw [List.any_cons, ih]
    cases v <;> simp [eqText, isOne]
section
variable {X : Cx} {pins : List (Addr × Obj)} {σ : L2.St} {H : Hp} {s : Shared}
theorem text_eqAt {A : Around} {b : Addr} {v : V} {u : Value} (hu : A.units < cLine) (I : Inv X pins σ H s) (h : Sh b H v) (rv : RelV v u) (y : Str) (t : Tok) : SeqAt.EqAt A s (.str y t) u (eqText v (.str y t)) := by
  cases v with
  | non => cases (show u = Value.none from rv); exact SeqAt.EqAt.str_none y t
  | bl x => cases (show u = Value.bool x from rv); exact SeqAt.EqAt.str_bool y t x
  | int i => obtain ⟨k, rfl⟩ := (show ∃ k, u = Value.int i k from rv); exact SeqAt.EqAt.str_int y t i k
  | str x => obtain ⟨k, rfl⟩ := (show ∃ k, u = Value.str x k from rv); exact SeqAt.EqAt.str_str y t x k
  | ref a =>
    cases (show u = Value.ref a from rv)
    obtain ⟨ne, ⟨xs, e⟩ | ⟨xs, e⟩⟩ := h
    · obtain ⟨its, r, pl, _⟩ := I.list (SqL.of e)
      exact SeqAt.EqAt.str_list y t pl.isList hu
    · obtain ⟨its, r, pl, _⟩ := I.tuple (SqT.of e)
      exact SeqAt.EqAt.str_tuple y t pl hu
  | byt _ => exact h.elim
  | flt _ => exact h.elim
  | ty _ => exact h.elim
/-- x (not) in a tuple of texts -/
def rInSh (K : PySem.W.Frag) (neg : Bool) : R2 := fun x y H Q => ∃ b p ys, y = .ref p ∧ SqT K H p (ys.map V.str) ∧ Sh b H x ∧ Q (.bl (if neg then !isOne ys x else isOne ys x)) H
theorem mem_text {b : Addr} {A : Around} {v : V} {u : Value} (hu : A.units < cLine) (I : Inv X pins σ H s) (h : Sh b H v) (rv : RelV v u) : ∀ {ys : List Str} {us : List Value}, Vals (ys.map V.str) us → ∀ z ∈ us, SeqAt.EqAt A s z u (eqText v z)
  | [], _, .nil, _, hz => by cases hz
  | y :: ys, _, .cons r t, z, hz => by
    obtain ⟨k, rfl⟩ := r
    rcases List.mem_cons.mp hz with e | hz
    · subst e
      exact text_eqAt hu I h rv y k
    · exact mem_text hu I h rv t z hz
theorem op_inSh (hu : X.A.units + 64 < cLine) : OpR X (compareOp .In) (rInSh X.K false) := by
  intro pins s σ H x y v u Q I rx ry h
  obtain ⟨b, p, ys, rfl, hq, hs, q⟩ := h
  cases ry
  obtain ⟨its, rv, pl, _⟩ := I.tuple hq
  have hu1 : X.A.in1.units < cLine := by show X.A.units + 1 < cLine; omega
  refine SeqAt.in_tupleAt (eqText x) pl (fun z hz => mem_text hu1 I hs rx rv z (by simpa using hz)) ⟨.bl _, H, I, rfl, ?_⟩
  rw [show its.toArray.any (eqText x) = its.any (eqText x) by simp, any_text rv]
  exact q
theorem op_notInSh (hu : X.A.units + 64 < cLine) : OpR X (compareOp .NotIn) (rInSh X.K true) := by
  intro pins s σ H x y v u Q I rx ry h
  obtain ⟨b, p, ys, rfl, hq, hs, q⟩ := h
  cases ry
  obtain ⟨its, rv, pl, _⟩ := I.tuple hq
  have hu1 : X.A.in1.units < cLine := by show X.A.units + 1 < cLine; omega
  refine SeqAt.notIn_tupleAt (eqText x) pl (fun z hz => mem_text hu1 I hs rx rv z (by simpa using hz)) ⟨.bl _, H, I, rfl, ?_⟩
  rw [show its.toArray.any (eqText x) = its.any (eqText x) by simp, any_text rv]
  exact q
end
end Rs
/-! Dicts of ints as sets; comprehensions over anything walked; a bool > an int; values by two levels of shape. -/
namespace Rs
open PySem PySem.Spec PyProof.Rows L2
/-! ### a bool > an int -/
section
variable {prog : Program} {w : World} {A : Around} {E : Value → Shared → Prop} {s : Shared}
theorem gives_gt_bool (c : Bool) (j : Int) (u : Tok) : Gives (Builtin.«int.__gt__» ⟨[.bool c, .int j u], []⟩) (.val (Value.bool (decide (j < (if c = true then (1 : Int) else 0))))) :=
  .of_wp fun M A E s Q h => by
    obtain ⟨hp, g, d, tk, os⟩ := s
    wp_walk
    exact ⟨_, rfl, h⟩
theorem gt_bool_int {c : Bool} {j : Int} {u : Tok} {Q : Value → Shared → Prop} (h : Q (.bool (decide (j < (if c = true then (1 : Int) else 0)))) s) : wpAny (model prog w) A (compareOp .Gt (.bool c) (.int j u)) Q E s := by
  show wpAny _ _ (richCompare .Gt (.bool c) (.int j u)) Q E s
  exact wpAny_richCompare_left (op := .Gt) (Ta := "bool") (Tb := "int") rfl (typeIs_int s j u) (by decide) F.sub_int_bool F.slot_bool_gt
    (call_gives F.slot_bool_gt rfl F.entry_int_gt (F.args_int_gt_2 _ _) (gives_gt_bool c j u) ⟨nofun, h⟩)
end
/-- an int or a bool > an int -/
def gtI (v : V) (j : Int) : Bool := match v with
  | .int i => decide (j < i)
  | .bl c => decide (j < (if c = true then (1 : Int) else 0))
  | _ => false
def rGtI : R2 := fun x y H Q => ∃ j, y = .int j ∧ ((∃ i, x = .int i) ∨ ∃ c, x = .bl c) ∧ Q (.bl (gtI x j)) H
theorem op_gtI {X : Cx} : OpR X (compareOp .Gt) rGtI := by
  intro pins s σ H x y v u Q I rx ry h
  obtain ⟨j, rfl, ⟨i, rfl⟩ | ⟨c, rfl⟩, q⟩ := h
  · exact op_gt pins s σ H _ _ v u Q I rx ry ⟨i, j, rfl, rfl, q⟩
  · obtain ⟨t, rfl⟩ := ry
    cases (show v = Value.bool c from rx)
    exact gt_bool_int ⟨.bl _, H, I, rfl, q⟩
/-! ### y in a dict -/
def rInDict : R2 := fun y x H Q => ∃ a o, x = .ref a ∧ DGet H a y o ∧ Q (.bl o.isSome) H
theorem op_inDict {X : Cx} (hu : X.A.units + 1 < cLine) : OpR X (compareOp .In) rInDict := by
  intro pins s σ H y x v u Q I ry rx h
  obtain ⟨a, o, rfl, g, q⟩ := h
  cases (show u = Value.ref a from rx)
  exact d_in hu I g ry fun s3 I3 => ⟨.bl o.isSome, H, I3, rfl, q⟩
/-- the int keys of a dict are just these -/
def KeysI (kvs : List (Key × V)) (ns : List Int) : Prop := (∀ i : Int, (valV kvs (.inl i)).isSome = decide (i ∈ ns)) ∧ kvs.length ≤ ns.length
theorem KeysI.nil : KeysI [] [] := ⟨fun i => by simp [valV], Nat.le_refl _⟩
theorem KeysI.snoc {kvs : List (Key × V)} {ns : List Int} (h : KeysI kvs ns) (i : Int) (v : V) : KeysI (putK kvs (.inl i) v) (ns ++ [i]) := by
  refine ⟨fun j => ?_, ?_⟩
  · rw [valV_put]
    by_cases e : j = i
    · subst e
      simp
    · have e' : ¬ ((Sum.inl j : Key) = .inl i) := fun q => e (Sum.inl.inj q)
      rw [if_neg e', h.1 j]
      simp [e]
  · have l1 := length_putK kvs (Sum.inl i : Key) v
    have l2 := h.2
    rw [List.length_append]
    show _ ≤ ns.length + 1
    omega
theorem KeysI.get {kvs : List (Key × V)} {ns : List Int} (h : KeysI kvs ns) {H : Hp} {a : Addr} (e : H a = some (.dK kvs)) (i : Int) : ∃ o, DGet H a (.int i) o ∧ o.isSome = decide (i ∈ ns) :=
  ⟨_, DGet.k (k := (.inl i : Key)) e, h.1 i⟩
/-- a dict of ints stands at D -/
def SetI (H : Hp) (D : Addr) (ns : List Int) : Prop := ∃ kvs, H D = some (.dK kvs) ∧ KeysI kvs ns
theorem SetI.get {H : Hp} {D : Addr} {ns : List Int} (h : SetI H D ns) (i : Int) : ∃ o, DGet H D (.int i) o ∧ o.isSome = decide (i ∈ ns) := by
  obtain ⟨kvs, e, k⟩ := h
  exact k.get e i
theorem SetI.same {H H' : Hp} {D : Addr} {ns : List Int} (h : SetI H D ns) (s : Same H H') : SetI H' D ns := by
  obtain ⟨kvs, e, k⟩ := h
  exact ⟨kvs, s _ _ e, k⟩
/-- a dict comprehension over anything walked -/
theorem dc_it {J : It} {n : Nat} {G : Hp → Prop} {Y : Nat → Hp → V → Hp → Prop} (wk : Walk J n G Y) {g : TG} {tt : TT} {tk tv : TE} {vs : List Nat} {σ : L2.St} {H0 : Hp} {D : Addr} {Qe : Hp → Prop} (R : Nat → Hp → Prop) (start : R 0 (upd H0 D (.dK [])))
    (stay : ∀ j H, j ≤ n → R j H → G H)
    (turn : ∀ j x H H', j < n → R j H → Y j H x H' → g x (wipe σ vs) H' fun σ1 H1 => wipe σ1 vs = wipe σ vs ∧ tt σ1 H1 fun c H2 =>
      if c = true then tk σ1 H2 fun y H3 => tv σ1 H3 fun z H4 => ∃ ks k, y = kV k ∧ H4 D = some (.dK ks) ∧ ks.length < sizeLine ∧ R (j + 1) (upd H4 D (.dK (putK ks k z))) else R (j + 1) H2)
    (fin : ∀ H, R n H → Qe H) :
    ∃ W : Nat → Nat → Hp → Prop, (∃ m, W 0 m (upd H0 D (.dK []))) ∧ ∀ j m H, W j m H → (J.stop j H ∧ Qe H) ∨
      (J.go j H ∧ ∃ N : Hp → Prop, (∀ H', N H' → ∃ m', m' < m ∧ W (j + 1) m' H') ∧ ∀ x H', J.yld j H x H' → g x (wipe σ vs) H' fun σ1 H1 => wipe σ1 vs = wipe σ vs ∧ tt σ1 H1 fun c H2 =>
        if c = true then tk σ1 H2 fun y H3 => tv σ1 H3 fun z H4 => ∃ ks k, y = kV k ∧ H4 D = some (.dK ks) ∧ ks.length < sizeLine ∧ N (upd H4 D (.dK (putK ks k z))) else N H2) := by
  refine ⟨fun j m H => m + j = n ∧ R j H, ⟨n, rfl, start⟩, fun j m H hw => ?_⟩
  obtain ⟨em, hR⟩ := hw
  have gH := stay j H (by omega) hR
  cases m with
  | zero =>
    obtain rfl : j = n := by omega
    exact .inl ⟨wk.stops H gH, fin H hR⟩
  | succ m =>
    have lt : j < n := by omega
    refine .inr ⟨wk.goes j H lt gH, R (j + 1), fun H' hN => ⟨m, Nat.lt_succ_self m, by omega, hN⟩, fun x H' hy => ?_⟩
    exact turn j x H H' lt hR (wk.yields j H x H' lt gH hy)
/-! ### more of what stays -/
theorem But.free {b p : Addr} {H H' : Hp} (k : But b H H') (ne : p ≠ b) (h : H' p = none) : H p = none := by
  cases e : H p with
  | none => rfl
  | some o =>
    have := k p o ne e
    rw [h] at this
    cases this
/-- values told by their own shape and that of their things -/
def Tw (b : Addr) (H : Hp) : V → Prop
  | .ref a => a ≠ b ∧ ∃ xs, (H a = some (.lst xs) ∨ H a = some (.tup xs)) ∧ xs.length ≤ 100 ∧ ∀ x ∈ xs, Sh b H x
  | v => Sh b H v
theorem Tw.sh {b : Addr} {H : Hp} {v : V} (h : Tw b H v) : Sh b H v := by
  cases v with
  | ref a =>
    obtain ⟨n, xs, e | e, _⟩ := h
    · exact ⟨n, .inl ⟨xs, e⟩⟩
    · exact ⟨n, .inr ⟨xs, e⟩⟩
  | _ => exact h
theorem Tw.but {b : Addr} {H H' : Hp} {v : V} (h : Tw b H v) (k : But b H H') : Tw b H' v := by
  cases v with
  | ref a =>
    obtain ⟨n, xs, e, l, q⟩ := h
    exact ⟨n, xs, e.imp (k _ _ n) (k _ _ n), l, fun x hx => (q x hx).but k⟩
  | _ => exact h
theorem Tw.set {b t : Addr} {H : Hp} {v : V} {xs ys : List V} (h : Tw b H v) (e : H t = some (.lst xs)) (ne : v ≠ .ref t) : Tw b (upd H t (.lst ys)) v := by
  cases v with
  | ref a =>
    obtain ⟨n, zs, f, l, q⟩ := h
    have na : a ≠ t := fun z => ne (by rw [z])
    exact ⟨n, zs, by rw [upd_ne na]; exact f, l, fun x hx => (q x hx).set e⟩
  | _ => exact h
/-- a value that is no older object -/
def NewV (H : Hp) (v : V) : Prop := ∀ a, v = .ref a → H a = none
theorem NewV.ne {H : Hp} {v : V} {t : Addr} {o : HO} (h : NewV H v) (e : H t = some o) : v ≠ .ref t := fun z => by
  have := h t z
  rw [e] at this
  cases this
theorem NewV.but {b : Addr} {H H' : Hp} {v : V} (h : NewV H' v) (k : But b H H') (s : Sh b H' v) : NewV H v := fun a e => by
  subst e
  exact k.free s.1 (h a rfl)
/-! ### the things of a list or a tuple -/
def seqV (H : Hp) : V → Option (List V)
  | .ref a => match H a with
    | some (.lst xs) => some xs
    | some (.tup xs) => some xs
    | _ => none
  | _ => none
theorem seqV_lst {H : Hp} {a : Addr} {xs : List V} (h : H a = some (.lst xs)) : seqV H (.ref a) = some xs := by
  show (match H a with
    | some (.lst xs) => some xs
    | some (.tup xs) => some xs
    | _ => none) = _
  rw [h]
theorem seqV_tup {H : Hp} {a : Addr} {xs : List V} (h : H a = some (.tup xs)) : seqV H (.ref a) = some xs := by
  show (match H a with
    | some (.lst xs) => some xs
    | some (.tup xs) => some xs
    | _ => none) = _
  rw [h]
theorem seqV_tw {b : Addr} {H H' : Hp} {v : V} (h : Tw b H v) (k : But b H H') : seqV H' v = seqV H v := by
  cases v with
  | ref a =>
    obtain ⟨n, xs, e | e, _⟩ := h
    · rw [seqV_lst e, seqV_lst (k _ _ n e)]
    · rw [seqV_tup e, seqV_tup (k _ _ n e)]
  | _ => rfl
def inB (lo hi : Int) : V → Bool
  | .int i => decide (lo ≤ i) && decide (i < hi)
  | _ => false
/-- whether a value is a sequence of integers between -/
def btw (H : Hp) (lo hi : Int) (v : V) : Bool := match seqV H v with
  | some xs => xs.all (inB lo hi)
  | none => false
theorem btw_seq {H : Hp} {lo hi : Int} {v : V} {xs : List V} (h : seqV H v = some xs) : btw H lo hi v = xs.all (inB lo hi) := by
  unfold btw
  rw [h]
theorem btw_none {H : Hp} {lo hi : Int} {v : V} (h : seqV H v = none) : btw H lo hi v = false := by
  unfold btw
  rw [h]
theorem btw_tw {b : Addr} {H H' : Hp} {v : V} {lo hi : Int} (h : Tw b H v) (k : But b H H') : btw H' lo hi v = btw H lo hi v := by
  unfold btw
  rw [seqV_tw h k]
theorem all_inB {lo hi : Int} : ∀ {xs : List V}, xs.all (inB lo hi) = true → ∃ ns : List Int, xs = ns.map V.int ∧ ∀ n ∈ ns, lo ≤ n ∧ n < hi
  | [], _ => ⟨[], rfl, fun n h => nomatch h⟩
  | x :: xs, h => by
    rw [List.all_cons, Bool.and_eq_true] at h
    obtain ⟨ns, rfl, q⟩ := all_inB h.2
    cases x with
    | int i =>
      have h1 := h.1
      simp only [inB, Bool.and_eq_true, decide_eq_true_eq] at h1
      exact ⟨i :: ns, rfl, fun n hn => by
        rcases List.mem_cons.mp hn with e | e
        · subst e; exact h1
        · exact q n e⟩
    | _ => exact absurd h.1 (by simp [inB])
/-! ### n = {k: v for ..}, n a local name that no inner block keeps -/
theorem sw_dc {kx vx : Expr} {gs : List Comprehension} {sc : Scope} {p q : Pos} {n : Str} {ln : Nat} {ev : Env} (isf : ev.scope.kind = .function) (isl : ev.scope.names.lookup n = some .local) (same : (q.line == p.line) = true)
    (out : (sc.names.any fun (m, k) => m == n && (k == .local || k == .cell)) = false) : swapsWith (.DictComp kx vx gs sc p) (some (.Name n q)) ln ev = pure true := by
  have k1 : ev.kindOf n = some .local := isl
  have k2 : ev.blockKind = .function := by
    unfold Env.blockKind
    rw [isf]
    rfl
  unfold swapsWith
  simp only [k2, k1, out, Expr.pos, same]
  rfl
theorem ps_setDc {X : Cx} {i : Nat} {n : Str} {q : Pos} {kx vx tg it : Expr} {ifs : List Expr} {sc : Scope} {own : List (Str × Nat)} {p sp : Pos} {wi : TI} {g : TG} {tt : TT} {tk tv : TE} (calm : X.calm = true) (nd : X.N.Nodup) (hn : X.N[i]? = some n) (isl : X.env.scope.names.lookup n = some .local)
    (sw : swapsWith (.DictComp kx vx [⟨tg, it, ifs, 0⟩] sc p) (some (.Name n q)) sp.line X.env = pure true) (hi : PI X tg it wi) (ok : BlkOk X.N X.env.scope sc own)
    (r1 : ∀ (u : Shared) (H : Hp) (C : Addr) (cl : List (Str × Addr)) (fp : List Addr), PG (X.blk u H sc (compEnvC sc cl C X.env) fp) tg g) (r2 : ∀ (u : Shared) (H : Hp) (C : Addr) (cl : List (Str × Addr)) (fp : List Addr), PTs (X.blk u H sc (compEnvC sc cl C X.env) fp) ifs tt)
    (r3 : ∀ (u : Shared) (H : Hp) (C : Addr) (cl : List (Str × Addr)) (fp : List Addr), PE (X.blk u H sc (compEnvC sc cl C X.env) fp) kx tk) (r4 : ∀ (u : Shared) (H : Hp) (C : Addr) (cl : List (Str × Addr)) (fp : List Addr), PE (X.blk u H sc (compEnvC sc cl C X.env) fp) vx tv)
    (plain : ∀ x, foldedSetIterable it X.env x = pure x := by intro _; rfl) : PS X (.Assign [.Name n q] (.DictComp kx vx [⟨tg, it, ifs, 0⟩] sc p) sp) (tAsg (tDc wi g tt tk tv (own.map (·.2))) (gName i)) := by
  refine ⟨fun pins s σ H D I wish => ?_⟩
  have wish : tDc wi g tt tk tv (own.map (·.2)) σ H (fun x H1 => gName i x σ H1 D.nx) := wish
  rw [exec_Assign_Name_used _ _ _ _ sw]
  refine wpAny_bind (wpAny_standAt (wpAny_bind ?_))
  show wpAny _ X.A (do let _ ← comprehension (.DictComp kx vx [⟨tg, it, ifs, 0⟩] sc p) sc X.env (firstIterPos [⟨tg, it, ifs, 0⟩] p) newDict false (eval it X.env) (some (assign (.Name n q) X.env))) _ _ s
  refine wpAny_bind (thn (dc_core (Qf := fun _ s' => SP X pins D .next s') calm nd I hi ok r1 r2 r3 r4 plain wish fun L C s1 ns H1 I1 got hns fr => ?_) fun _ s1 z => wpAny_pure (wpAny_pure z))
  show wpAny _ _ (assign (.Name n q) X.env (.ref L)) _ _ _
  refine wpAny_assign_Name (store_ok2 (v := V.ref L) I1 nd hn (.inl isl) rfl (fun s2 I2 ⟨c, keep, way⟩ => ?_) (.inr isl))
  obtain ⟨e0, e1, e2, e3, e4, e5⟩ := fr
  have far : C ≠ c := by
    rcases way with z | z
    · rw [z]
      exact e1
    · exact fun e => e4 n c z e.symm
  refine ⟨ns, hns.sameBut keep far, fun h3 keep3 => ?_⟩
  exact ⟨_, H1, I2.turned (t' := s2.toks) (fun b o hb e => (keep3.2 b hb).trans e) e0 e1 e3 e4 e5, got⟩
/-- a list or a tuple, walked -/
def iSeqA (K : PySem.W.Frag) (tl : TE) : TI := fun σ H R => tl σ H fun v H1 => ∃ a, v = .ref a ∧ ((∃ xs, SqL K H1 a xs ∧ R (Itl K a) H1) ∨ (∃ xs, SqT K H1 a xs ∧ R (Itt K a) H1))
theorem pi_seqA {X : Cx} {tg l : Expr} {tl : TE} (hl : PE X l tl) : PI X tg l (iSeqA X.K tl) := by
  refine ⟨fun pins s σ H R I h => thn (hl.run pins s σ H _ I h) fun v u res => ?_⟩
  obtain ⟨x, G, J, rx, a, ex, way⟩ := res
  subst ex
  cases rx
  have new : ∀ c ∈ [u.heap.objs.size], FpOk X pins G c := fun c hc => by
    obtain rfl : c = u.heap.objs.size := by simpa using hc
    exact J.fpOk (Nat.le_refl _) (J.hok.fresh (Nat.le_refl _))
  rcases way with ⟨xs, hq, q⟩ | ⟨xs, hq, q⟩
  · obtain ⟨its, rv, p, _⟩ := J.list hq
    refine wpAny_pyIter_list p.isList ⟨u.heap.objs.size, [u.heap.objs.size], _, _, G, rfl, ?_, turn_list a _, ⟨_, Heap.get?_push_size _ rfl, rfl, rfl⟩, new, q⟩
    exact J.kept (t' := u.toks) fun c r z => Heap.get?_push_of_some _ z
  · obtain ⟨its, rv, p, _⟩ := J.tuple hq
    refine wpAny_pyIter_tuple (show u.heap.IsTuple a its.toArray from p) ⟨u.heap.objs.size, [u.heap.objs.size], _, _, G, rfl, ?_, turn_tuple a _, ⟨_, Heap.get?_push_size _ rfl, rfl, rfl⟩, new, q⟩
    exact J.kept (t' := u.toks) fun c r z => Heap.get?_push_of_some _ z
/-- a list or a tuple of ints -/
def SeqI (K : PySem.W.Frag) (H : Hp) (a : Addr) (ns : List Int) : Prop := SqL K H a (ns.map V.int) ∨ SqT K H a (ns.map V.int)
theorem SeqI.same {K : PySem.W.Frag} {H H' : Hp} {a : Addr} {ns : List Int} (h : SeqI K H a ns) (s : Same H H') : SeqI K H' a ns := h.imp (s.seq ·) (fun h => (Fz.of_same s).sqT h)
theorem take_int {ns : List Int} {i : Nat} {x : V} (h : (ns.map V.int)[i]? = some x) : ∃ n, x = .int n ∧ ns.take (i + 1) = ns.take i ++ [n] := by
  obtain ⟨n, hn, rfl⟩ := map_int_get h
  exact ⟨n, rfl, take_snoc hn⟩
/-- {n: True for n in a} -/
theorem dset {K : PySem.W.Frag} {a : Addr} {ns : List Int} {te : TE} {sl : Nat} {σ : L2.St} {H : Hp} {Q : VK} (hte : ∀ R : VK, R (.ref a) H → te σ H R) (hl : sl < σ.length) (hS : SeqI K H a ns) (hn : ns.length ≤ 1000)
    (k : ∀ D H', H D = none → Same H H' → SetI H' D ns → Q (.ref D) H') : tDc (iSeqA K te) (gName sl) tYes (tVar sl) (tC (.bl true)) [sl] σ H Q := by
  have turn : ∀ (D : Addr), H D = none → ∀ j x Hc H', j < (ns.map V.int).length → (SetI Hc D (ns.take j) ∧ Same H Hc) → YAt (ns.map V.int) j Hc x H' → gName sl x (wipe σ [sl]) H' fun σ1 H1 => wipe σ1 [sl] = wipe σ [sl] ∧ tYes σ1 H1 fun c H2 =>
      if c = true then tVar sl σ1 H2 fun y H3 => tC (.bl true) σ1 H3 fun z H4 => ∃ ks k, y = kV k ∧ H4 D = some (.dK ks) ∧ ks.length < sizeLine ∧ (SetI (upd H4 D (.dK (putK ks k z))) D (ns.take (j + 1)) ∧ Same H (upd H4 D (.dK (putK ks k z)))) else (SetI H2 D (ns.take (j + 1)) ∧ Same H H2) := by
    intro D hD j x Hc H' hj hR hy
    obtain ⟨rfl, hx⟩ := hy
    obtain ⟨n, rfl, tk⟩ := take_int hx
    obtain ⟨⟨kvs, hk, kk⟩, sc⟩ := hR
    refine ⟨by simp [wipe, List.set_set], ?_⟩
    dsimp only [tYes]
    rw [if_pos rfl]
    refine ⟨.int n, by simp [wipe, List.getElem?_set, hl], kvs, .inl n, rfl, hk, ?_, ?_, ?_⟩
    · have := kk.2
      rw [List.length_take] at this
      exact szl (by omega)
    · rw [tk]
      exact ⟨_, upd_same, kk.snoc n _⟩
    · exact same_lst sc hD
  refine hte _ ⟨a, rfl, ?_⟩
  rcases hS with hS | hS
  · refine .inl ⟨_, hS, fun D hD => dc_it walk_list (fun i Hc => SetI Hc D (ns.take i) ∧ Same H Hc) ⟨⟨[], upd_same, KeysI.nil⟩, same_new hD⟩ (fun i Hc _ hR => hR.2.seq hS) (turn D hD) (fun Hc hR => ?_)⟩
    rw [List.length_map, List.take_length] at hR
    exact k D Hc hD hR.2 hR.1
  · refine .inr ⟨_, hS, fun D hD => dc_it walk_tup (fun i Hc => SetI Hc D (ns.take i) ∧ Same H Hc) ⟨⟨[], upd_same, KeysI.nil⟩, same_new hD⟩ (fun i Hc _ hR => (Fz.of_same hR.2).sqT hS) (turn D hD) (fun Hc hR => ?_)⟩
    rw [List.length_map, List.take_length] at hR
    exact k D Hc hD hR.2 hR.1
theorem asg_go {te : TE} {g : V → L2.St → Hp → (L2.St → Hp → Prop) → Prop} {rest : TS} {D : Ends} {σ : L2.St} {H : Hp} (h : te σ H (fun x H1 => g x σ H1 (fun σ2 H2 => rest D σ2 H2))) : tSeq (tAsg te g) rest D σ H := h
/-- [e for n in a], the e of a bool each, nothing written -/
theorem lmap {K : PySem.W.Frag} {a : Addr} {ns : List Int} {te el : TE} {sl : Nat} {σ : L2.St} {H : Hp} {Q : VK} (f : Int → Bool) (hte : ∀ R : VK, R (.ref a) H → te σ H R) (hS : SeqI K H a ns) (hn : ns.length ≤ 1000)
    (helt : ∀ n Hc (R : VK), n ∈ ns → Same H Hc → R (.bl (f n)) Hc → el ((wipe σ [sl]).set sl (some (.int n))) Hc R)
    (k : ∀ D H', H D = none → Same H H' → H' D = some (.lst ((ns.map f).map V.bl)) → Q (.ref D) H') : tLc (iSeqA K te) (gName sl) tYes el [sl] σ H Q := by
  have turn : ∀ (D : Addr), H D = none → ∀ j x Hc H', j < (ns.map V.int).length → (Hc D = some (.lst (((ns.take j).map f).map V.bl)) ∧ Same H Hc) → YAt (ns.map V.int) j Hc x H' → gName sl x (wipe σ [sl]) H' fun σ1 H1 => wipe σ1 [sl] = wipe σ [sl] ∧ tYes σ1 H1 fun c H2 =>
      if c = true then el σ1 H2 fun y H3 => ∃ acc, H3 D = some (.lst acc) ∧ acc.length < sizeLine ∧ (upd H3 D (.lst (acc ++ [y])) D = some (.lst (((ns.take (j + 1)).map f).map V.bl)) ∧ Same H (upd H3 D (.lst (acc ++ [y])))) else (H2 D = some (.lst (((ns.take (j + 1)).map f).map V.bl)) ∧ Same H H2) := by
    intro D hD j x Hc H' hj hR hy
    obtain ⟨rfl, hx⟩ := hy
    obtain ⟨n, rfl, tk⟩ := take_int hx
    obtain ⟨hk, sc⟩ := hR
    refine ⟨by simp [wipe, List.set_set], ?_⟩
    dsimp only [tYes]
    rw [if_pos rfl]
    refine helt n _ _ (List.mem_of_mem_take (i := j + 1) (by rw [tk]; simp)) sc ⟨_, hk, ?_, ?_, ?_⟩
    · rw [List.length_map, List.length_map, List.length_take]
      exact szl (by omega)
    · rw [tk, upd_same, List.map_append, List.map_append]
      rfl
    · exact same_lst sc hD
  refine hte _ ⟨a, rfl, ?_⟩
  rcases hS with hS | hS
  · refine .inl ⟨_, hS, fun D hD => lc_it walk_list (fun i Hc => Hc D = some (.lst (((ns.take i).map f).map V.bl)) ∧ Same H Hc) ⟨upd_same, same_new hD⟩ (fun i Hc _ hR => hR.2.seq hS) (turn D hD) (fun Hc hR => ?_)⟩
    rw [List.length_map, List.take_length] at hR
    exact k D Hc hD hR.2 hR.1
  · refine .inr ⟨_, hS, fun D hD => lc_it walk_tup (fun i Hc => Hc D = some (.lst (((ns.take i).map f).map V.bl)) ∧ Same H Hc) ⟨upd_same, same_new hD⟩ (fun i Hc _ hR => (Fz.of_same hR.2).sqT hS) (turn D hD) (fun Hc hR => ?_)⟩
    rw [List.length_map, List.take_length] at hR
    exact k D Hc hD hR.2 hR.1
theorem b_go {r : List V → Hp → VK → Prop} {te : TE} {σ : L2.St} {H : Hp} {Q : Bool → Hp → Prop} (h : te σ H (fun x H1 => r [x] H1 (fun z H2 => ∃ c, z = .bl c ∧ Q c H2))) : tB (tCB r (tCons te tNil)) σ H Q := h
theorem all_id {ns : List Int} {f : Int → Bool} : (ns.map f).all id = ns.all f := by simp [List.all_map]
/-- a list == [] -/
def rEqNil (K : PySem.W.Frag) : R2 := fun x y H Q => ∃ l b xs, x = .ref l ∧ y = .ref b ∧ SqL K H l xs ∧ SqL K H b [] ∧ Q (.bl xs.isEmpty) H
theorem op_eqNil {X : Cx} (hu : X.A.units + 1 < cLine) : OpR X (compareOp .Eq) (rEqNil X.K) := by
  intro pins s σ H x y v u Q I rx ry h
  obtain ⟨l, b, xs, rfl, rfl, h1, h2, q⟩ := h
  cases (show v = Value.ref l from rx)
  cases (show u = Value.ref b from ry)
  obtain ⟨its, rv, p1, _⟩ := I.list h1
  obtain ⟨its2, rv2, p2, _⟩ := I.list h2
  cases rv2
  have hu0 : X.A.units < cLine := by omega
  show wpAny _ _ (richCompare .Eq (.ref l) (.ref b)) _ _ _
  cases rv with
  | nil => exact SeqAt.RcAt.lists (e := fun _ => true) p1.isList p2.isList rfl hu0 (fun j h1 h2 => absurd h1 (by simp)) _ _ _ _ ⟨.bl _, H, I, rfl, q⟩
  | cons r t => exact SeqAt.RcAt.lists_lengths p1.isList p2.isList (by simp) hu0 _ _ _ _ ⟨.bl _, H, I, rfl, q⟩
/-- [a draw for _ in range(a draw)] -/
theorem ldraw {b : Addr} {targ : TA} {el : TE} {sl : Nat} {σ : L2.St} {H : Hp} {Q : VK} {lo hi : Int} (harg : ∀ R : List V → Hp → Prop, (∀ m H1, 0 ≤ m → m ≤ 100 → Box H1 b → But b H H1 → R [.int m] H1) → targ σ H R)
    (helt : ∀ x Hc (R : VK), Box Hc b → (∀ n H1, lo ≤ n → n < hi → Box H1 b → But b Hc H1 → R (.int n) H1) → el ((wipe σ [sl]).set sl (some x)) Hc R)
    (k : ∀ D (ns : List Int) H', H D = none → D ≠ b → H' D = some (.lst (ns.map V.int)) → ns.length ≤ 100 → (∀ n ∈ ns, lo ≤ n ∧ n < hi) → Box H' b → But b H H' → Q (.ref D) H') : tLc (iRng1 targ) (gName sl) tYes el [sl] σ H Q := by
  refine harg _ fun m H1 m0 m1 B1 k1 => ⟨m, rfl, by omega, by omega, fun D hD => ?_⟩
  have neD : D ≠ b := B1.ne_none hD
  refine lc_range (fun i Hc => ∃ ns : List Int, Hc D = some (.lst (ns.map V.int)) ∧ ns.length = i ∧ (∀ n ∈ ns, lo ≤ n ∧ n < hi) ∧ Box Hc b ∧ But b H1 Hc) ⟨[], upd_same, rfl, (fun n h => nomatch h), B1.same (same_new hD), But.of_same (same_new hD)⟩ (fun i Hc hi hP => ?_) (fun Hc hP => ?_)
  · obtain ⟨ns, hDc, hl, hns, Bc, kc⟩ := hP
    refine ⟨by simp [wipe, List.set_set], ?_⟩
    dsimp only [tYes]
    rw [if_pos rfl]
    refine helt _ _ _ Bc fun n H2 n0 n1 B2 k2 => ⟨_, k2 _ _ neD hDc, ?_, ns ++ [n], ?_, ?_, ?_, box_ne B2 neD, but_new (kc.trans k2) hD⟩
    · rw [List.length_map]
      exact szl (by omega)
    · rw [upd_same, List.map_append]
      rfl
    · rw [List.length_append, hl]
      rfl
    · intro x hx
      rcases List.mem_append.mp hx with h | h
      · exact hns x h
      · rw [List.mem_singleton] at h
        subst h
        exact ⟨n0, n1⟩
  · obtain ⟨ns, hDc, hl, hns, Bc, kc⟩ := hP
    exact k D ns Hc (k1.free neD hD) neD hDc (by omega) hns Bc (k1.trans kc)
theorem if_go {tt : TT} {ta tb : TE} {σ : L2.St} {H : Hp} {Q : VK} (h : tt σ H fun c H1 => if c = true then ta σ H1 Q else tb σ H1 Q) : tIf tt ta tb σ H Q := h
theorem cb_go {r : List V → Hp → VK → Prop} {te : TE} {σ : L2.St} {H : Hp} {Q : VK} (h : te σ H (fun x H1 => r [x] H1 Q)) : tCB r (tCons te tNil) σ H Q := h
end Rs
/-! v in o, v not in o by an own __contains__; what is_whole says of anything. -/
namespace Rs
open PySem PySem.Spec PyProof.Rows L2
section
variable {X : Cx} {CX : CXT} {C g : Addr} {n : Nat} {sp : Sp} {E : XK}
def rInM (C : Addr) (neg : Bool) (sp : Sp) (E : XK) : R2 := fun v y H Q => ∃ a dx fs, y = .ref a ∧ H a = some (.ins C dx fs) ∧ sp [.ref a, v] H (fun z H' => ∃ r, z = .bl r ∧ Q (.bl (if neg then !r else r)) H') E
theorem op_inM (M : Meth X.K C "__contains__" g) (F : FnR X.prog X.w X.K X.mg X.base CX n g sp) (hr : Room n X.A) (hx : Passes CX X E) : OpR X (compareOp .In) (rInM C false sp E) := by
  intro pins s σ H x y v u Q I rx ry h
  obtain ⟨a, dx, fs, rfl, ha, q⟩ := h
  cases (show u = Value.ref a from ry)
  obtain ⟨ox, od, J⟩ := ins_at I ha
  obtain ⟨m, hF⟩ := I.fr
  refine PySem.W.in_K hF I.ok.mod.kin J M.at_ M.fn ?_
  refine wpAny_mono (wpAny_call (run_fnR (us := [.ref a, v]) (vs := [.ref a, x]) F hr hx I (.cons rfl (.cons rx .nil)) q)) (fun w s' z => ?_) fun _ _ x => x
  obtain ⟨z', H', I', rz, r, ez, qz⟩ := z
  subst ez
  cases (show w = Value.bool r from rz)
  exact wpAny_truthy_bool ⟨.bl r, H', I', rfl, qz⟩
theorem op_notInM (M : Meth X.K C "__contains__" g) (F : FnR X.prog X.w X.K X.mg X.base CX n g sp) (hr : Room n X.A) (hx : Passes CX X E) : OpR X (compareOp .NotIn) (rInM C true sp E) := by
  intro pins s σ H x y v u Q I rx ry h
  obtain ⟨a, dx, fs, rfl, ha, q⟩ := h
  cases (show u = Value.ref a from ry)
  obtain ⟨ox, od, J⟩ := ins_at I ha
  obtain ⟨m, hF⟩ := I.fr
  refine PySem.W.notIn_K hF I.ok.mod.kin J M.at_ M.fn ?_
  refine wpAny_mono (wpAny_call (run_fnR (us := [.ref a, v]) (vs := [.ref a, x]) F hr hx I (.cons rfl (.cons rx .nil)) q)) (fun w s' z => ?_) fun _ _ x => x
  obtain ⟨z', H', I', rz, r, ez, qz⟩ := z
  subst ez
  cases (show w = Value.bool r from rz)
  exact wpAny_truthy_bool ⟨.bl (!r), H', I', rfl, qz⟩
end
theorem inV_int {n : Int} {ns : List Int} : inV (.int n) (ns.map V.int) = decide (n ∈ ns) := by
  induction ns with
  | nil => rfl
  | cons m ns ih =>
    unfold inV at ih ⊢
    rw [List.map_cons, List.any_cons, ih]
    show ((m == n) || decide (n ∈ ns)) = decide (n ∈ m :: ns)
    by_cases h : m = n
    · subst h
      simp
    · have h' : ¬ n = m := fun e => h e.symm
      simp [h, h']
theorem flat_ints {ns : List Int} : (ns.map V.int).all flatV = true := by
  induction ns with
  | nil => rfl
  | cons m ns ih =>
    rw [List.map_cons, List.all_cons, ih]
    rfl
/-- what is_whole says of a value: the integer that it is, if it is one -/
def IsV (K : PySem.W.Frag) (H : Hp) (v : V) (o : Option Int) : Prop := ∃ t r, TyX K H v t ∧ PySem.W.kitOne K t (.type "int") = some r ∧ (r = false → o = none) ∧
  (r = true → ∃ c, PySem.W.kitOne K t (.type "bool") = some c ∧ (c = true → o = none) ∧ (c = false → ∃ i, v = .int i ∧ o = some i))
def wholeV : V → Option Int
  | .int i => some i
  | _ => none
theorem Sh.isV {K : PySem.W.Frag} {b : Addr} {H : Hp} {v : V} (h : Sh b H v) : IsV K H v (wholeV v) := by
  obtain ⟨t, ty, ki, kb⟩ := h.ty (K := K)
  refine ⟨_, _, ty, kit_ty ki, fun e => ?_, fun e => ⟨_, kit_ty kb, fun e2 => ?_, fun e2 => ?_⟩⟩
  · cases v <;> first | rfl | exact absurd e (by simp [isInt])
  · cases v <;> first | rfl | exact absurd e2 (by simp [isBl])
  · cases v with
    | int i => exact ⟨i, rfl, rfl⟩
    | bl c => exact absurd e2 (by simp [isBl])
    | _ => exact absurd e (by simp [isInt, isBl])
theorem kit_own_int {K : PySem.W.Frag} {C : Addr} (N : OwnN K C) : PySem.W.kitOne K (.ref C) (.type "int") = some false := by
  have hm : PySem.W.kitMeta "int" = true := by decide +kernel
  have hs : PySem.W.subIn K (.ref C) (.type "int") = some false := N.it
  unfold PySem.W.kitOne PySem.W.kitCls
  simp [hm, hs]
theorem isV_own {K : PySem.W.Frag} {C x dx : Addr} {fs : List (Str × V)} {H : Hp} (I : OwnI K C) (c : Cls K C) (N : OwnN K C) (h : H x = some (.ins C dx fs)) : IsV K H (.ref x) none :=
  ⟨_, false, I.ty c h, kit_own_int N, fun _ => rfl, fun e => nomatch e⟩
end Rs
/-! ~o, o & p and the like by own methods; what stays of written and unwritten lists when one instance changes. -/
namespace Rs
open PySem PySem.Spec PyProof.Rows L2
section
variable {X : Cx} {CX : CXT} {C g : Addr} {n : Nat} {sp : Sp} {E : XK}
def rUnM (C : Addr) (sp : Sp) (E : XK) : V → Hp → VK → Prop := fun x H Q => ∃ a dx fs, x = .ref a ∧ H a = some (.ins C dx fs) ∧ sp [.ref a] H Q E
theorem un_invM (M : Meth X.K C "__invert__" g) (F : FnR X.prog X.w X.K X.mg X.base CX n g sp) (hr : Room n X.A) (hx : Passes CX X E) : UnR X (unaryOp .Invert) (rUnM C sp E) := by
  intro pins s σ H x v Q I rx h
  obtain ⟨a, dx, fs, rfl, ha, q⟩ := h
  cases (show v = Value.ref a from rx)
  obtain ⟨ox, od, J⟩ := ins_at I ha
  obtain ⟨m, hF⟩ := I.fr
  exact PySem.W.ksp_inv hF I.ok.mod.kin J M.at_ M.fn (wpAny_call (run_fnR (us := [.ref a]) (vs := [.ref a]) F hr hx I (.cons rfl .nil) q))
end
/-- a list that an instance's change leaves -/
theorem SeqI.but {K : PySem.W.Frag} {H F : Hp} {a x C dx : Addr} {gs : List (Str × V)} {ns : List Int} (h : SeqI K H a ns) (hx : H x = some (.ins C dx gs)) (k : But x H F) : SeqI K F a ns := by
  have ne : ∀ o, H a = some o → (∀ C dx gs, o ≠ .ins C dx gs) → a ≠ x := fun o e no z => by
    subst z
    rw [hx] at e
    injection e with e
    exact no _ _ _ e.symm
  rcases h with h | h
  · rcases h with (h | ⟨o, h⟩) | h
    · exact .inl (.inl (.inl (k _ _ (ne _ h (fun _ _ _ e => nomatch e)) h)))
    · exact .inl (.inl (.inr ⟨o, k _ _ (ne _ h (fun _ _ _ e => nomatch e)) h⟩))
    · exact .inl (.inr h)
  · rcases h with (h | ⟨o, h⟩) | h
    · exact .inr (.inl (.inl (k _ _ (ne _ h (fun _ _ _ e => nomatch e)) h)))
    · exact .inr (.inl (.inr ⟨o, k _ _ (ne _ h (fun _ _ _ e => nomatch e)) h⟩))
    · exact .inr (.inr h)
theorem sqL_ty {K : PySem.W.Frag} {H : Hp} {a : Addr} {xs : List V} (h : SqL K H a xs) : (∃ t, TyX K H (.ref a) t ∧ (t = .type "list")) ∨ ∃ o, H a = some (.frz o (.lst xs)) := by
  rcases h with (h | ⟨o, h⟩) | ⟨o, its, n, h1, h2, _⟩
  · exact .inl ⟨_, .base (.lst h), rfl⟩
  · exact .inr ⟨o, h⟩
  · exact .inl ⟨_, .kList h1 h2, rfl⟩
/-- e.f within a comprehension -/
theorem pe_fldK {X : Cx} {K : PySem.W.Frag} {ex : Expr} {f : Str} {pos : Pos} {ta : TE} (e : X.K = K) (he : PE X ex ta) (hb : attributeBase ex f X.env (eval ex X.env) = eval ex X.env) : PE X (.Attribute ex f pos) (tFld K ta f) := by
  subst e
  exact pe_fld he hb
theorem szL2 {n : Nat} (h : n ≤ 100000) : n < sizeLine := Nat.lt_of_le_of_lt h (by rw [sizeLine_eq]; decide)
theorem ix_listK {X : Cx} {K : PySem.W.Frag} (e : X.K = K) : IxR X (rIxL K) := by
  subst e
  exact ix_list
theorem ix_tupK {X : Cx} {K : PySem.W.Frag} (e : X.K = K) : IxR X (rIxT K) := by
  subst e
  exact ix_tup
/-- return f(e, ..): the first argument first -/
theorem retc_go {sp : Sp} {ds : List V} {E : XK} {te : TE} {ta : TA} {D : Ends} {σ : L2.St} {H : Hp} (h : te σ H (fun x H1 => ta σ H1 fun xs H2 => sp ((x :: xs) ++ ds) H2 D.rt E)) : tRet (tCall sp ds E (tCons te ta)) D σ H := h
theorem ret_go {te : TE} {D : Ends} {σ : L2.St} {H : Hp} (h : te σ H D.rt) : tRet te D σ H := h
/-- [n for n in a if f n] over a tuple of ints -/
theorem lfilt {K : PySem.W.Frag} {a : Addr} {ns : List Int} {te : TE} {tt : TT} {sl : Nat} {σ : L2.St} {H : Hp} {Q : VK} (f : Int → Bool) (hte : ∀ R : VK, R (.ref a) H → te σ H R) (hS : SqT K H a (ns.map V.int)) (hl : sl < σ.length) (ln : ns.length ≤ 3000)
    (htt : ∀ n Hc (R : Bool → Hp → Prop), Same H Hc → R (f n) Hc → tt ((wipe σ [sl]).set sl (some (.int n))) Hc R)
    (k : ∀ D H', H D = none → Same H H' → H' D = some (.lst ((ns.filter f).map V.int)) → Q (.ref D) H') : tLc (iTup K te) (gName sl) tt (tVar sl) [sl] σ H Q := by
  refine hte _ ⟨a, rfl, ⟨_, hS⟩, fun D hD => lc_it walk_tup (fun i Hc => Hc D = some (.lst (((ns.take i).filter f).map V.int)) ∧ Same H Hc) ⟨upd_same, same_new hD⟩ (fun i Hc _ hR => (Fz.of_same hR.2).sqT hS) (fun j x Hc H' hj hR hy => ?_) (fun Hc hR => ?_)⟩
  · obtain ⟨rfl, hx⟩ := hy
    obtain ⟨n, rfl, tk⟩ := take_int hx
    obtain ⟨hDc, sc⟩ := hR
    refine ⟨by simp [wipe, List.set_set], htt n _ _ sc ?_⟩
    refine ifB (fun g => ?_) (fun g => ?_)
    · refine ⟨.int n, by simp [wipe, List.getElem?_set, hl], _, hDc, ?_, ?_, same_lst sc hD⟩
      · rw [List.length_map]
        have := List.length_filter_le f (ns.take j)
        rw [List.length_take] at this
        exact szL2 (by omega)
      · rw [upd_same, tk, List.filter_append, List.filter_cons, g, List.map_append]
        rfl
    · refine ⟨?_, sc⟩
      rw [tk, List.filter_append, List.filter_cons, g]
      simpa using hDc
  · rw [List.length_map, List.take_length] at hR
    exact k D Hc hD hR.2 hR.1
theorem at_head {y : Int} {t : List Int} : atI ((y :: t).map V.int) 0 = some (.int y) := atI_ok (by decide) rfl rfl
theorem op_in_seqK {X : Cx} {K : PySem.W.Frag} (e : X.K = K) : OpR X (compareOp .In) (rIn K false) := by
  subst e
  exact op_in_seq
/-- [n for n in range(lo, hi) if f n] -/
theorem lcond {targ : TA} {tt : TT} {sl : Nat} {σ : L2.St} {H : Hp} {Q : VK} {lo hi : Int} (f : Int → Bool) (b1 : -1000 ≤ lo) (b2 : lo ≤ 3000) (b3 : -1000 ≤ hi) (b4 : hi ≤ 3000) (harg : ∀ R : List V → Hp → Prop, R [.int lo, .int hi] H → targ σ H R) (hl : sl < σ.length)
    (htt : ∀ n Hc (R : Bool → Hp → Prop), lo ≤ n → n < hi → Same H Hc → R (f n) Hc → tt ((wipe σ [sl]).set sl (some (.int n))) Hc R)
    (k : ∀ D H', H D = none → Same H H' → H' D = some (.lst ((((List.range (hi - lo).toNat).map fun i : Nat => lo + (i : Int)).filter f).map V.int)) → Q (.ref D) H') : tLc (iRng2 targ) (gName sl) tt (tVar sl) [sl] σ H Q := by
  refine harg _ ⟨lo, hi, rfl, by omega, fun D hD => ?_⟩
  refine lc_range (fun i Hc => Hc D = some (.lst ((((List.range i).map fun i : Nat => lo + (i : Int)).filter f).map V.int)) ∧ Same H Hc) ⟨upd_same, same_new hD⟩ (fun i Hc hi' hP => ?_) (fun Hc hP => k D Hc hD hP.2 hP.1)
  obtain ⟨hDc, sc⟩ := hP
  refine ⟨by simp [wipe, List.set_set], htt _ _ _ (by omega) (by omega) sc ?_⟩
  have z : ((List.range (i + 1)).map fun i : Nat => lo + (i : Int)).filter f = ((List.range i).map fun i : Nat => lo + (i : Int)).filter f ++ (if f (lo + (i : Int)) = true then [lo + (i : Int)] else []) := by
    rw [range_succ_map, List.filter_append, List.filter_cons, List.filter_nil]
  refine ifB (fun g => ?_) (fun g => ?_)
  · rw [if_pos g] at z
    refine ⟨.int (lo + (i : Nat)), by simp [wipe, List.getElem?_set, hl], _, hDc, ?_, ?_, same_lst sc hD⟩
    · rw [List.length_map]
      have := List.length_filter_le f ((List.range i).map fun i : Nat => lo + (i : Int))
      rw [List.length_map, List.length_range] at this
      exact szL2 (by omega)
    · rw [upd_same, z, List.map_append]
      rfl
  · rw [if_neg (by rw [g]; exact Bool.false_ne_true), List.append_nil] at z
    rw [z]
    exact ⟨hDc, sc⟩
section
variable {σ : L2.St} {H : Hp}
theorem tst_go {r : R2} {ta tb : TE} {Q : Bool → Hp → Prop} (h : ta σ H fun x H1 => tb σ H1 fun y H2 => r x y H2 fun z H3 => ∃ k, z = .bl k ∧ Q k H3) : tTest (tOp r ta tb) σ H Q := h
theorem or_go {t u : TT} {Q : Bool → Hp → Prop} (h : t σ H fun c H1 => if c = true then Q true H1 else u σ H1 Q) : tOr t u σ H Q := h
theorem prop_go {C : Addr} {sp : Sp} {E : XK} {ta : TE} {Q : VK} (h : ta σ H fun x H1 => ∃ a dx fs, x = .ref a ∧ H1 a = some (.ins C dx fs) ∧ sp [.ref a] H1 Q E) : tProp C sp [] E ta σ H Q := h
theorem opl_go {r : R2} {ta tb : TE} {Q : VK} (h : ta σ H fun x H1 => tb σ H1 fun y H2 => r x y H2 Q) : tOp r ta tb σ H Q := h
theorem un_go {r : V → Hp → VK → Prop} {ta : TE} {Q : VK} (h : ta σ H fun x H1 => r x H1 Q) : tUn r ta σ H Q := h
theorem seqif_go {c : TT} {t u rest : TS} {D : Ends} (h : c σ H fun b H1 => if b = true then t { D with nx := fun σ2 H2 => rest D σ2 H2 } σ H1 else u { D with nx := fun σ2 H2 => rest D σ2 H2 } σ H1) : tSeq (tIfS c t u) rest D σ H := h
end
end Rs
/-! A def's promise at one stand of the machine (what runs around it known), so that repr of lists and tuples can be told. -/
namespace Rs
open PySem PySem.Spec PyProof.Rows L2
/-- the promise of the def at f, called where A runs around -/
structure At (A : Around) (P : Program) (w : World) (K : PySem.W.Frag) (mg : Str → Option Value) (base : Heap) (CX : CXT) (k : Nat) (f : Addr) (ps : List Str) (fd : FuncData) (sp : Sp) : Prop where
  len : ∀ vs H Q E, sp vs H Q E → vs.length = ps.length
  go : ∀ (outer : List Env) (s : Shared) (H : Hp) (args : Args) (us : List Value) (vs : List V) (Q : VK) (E : XK), Room k A → Env0 P w K mg base A outer s H → BindsTo s fd args (ps.zip us) → Vals vs us → sp vs H Q E → codeAny (model P w) A (.call (.ref f) args) (CR CX outer P w H s Q E) s
section
variable {P : Program} {w : World} {K : PySem.W.Frag} {mg : Str → Option Value} {base : Heap}
theorem fun_at {A : Around} {x qual : Str} {st : Stmt} {f : Addr} {fd : FuncData} {N ps : List Str} {k : Nat} {CX : CXT} {sp : Sp} (F : Fun K x qual st f fd) (S : FnScope N ps (defScope st)) (len : ∀ vs H Q E, sp vs H Q E → vs.length = ps.length)
    (body : ∀ (cdv : Value) (outer : List Env) (s : Shared) (H : Hp) (vs : List V) (Q : VK) (E : XK), Room k (A.deeper (envOfC qual (defScope st) s.heap.objs.size f cdv)) → sp vs H Q E →
      ∃ t, PSs (cxOf CX P w K mg base N qual (defScope st) f cdv A outer s H E) (defBody st) t ∧ t { nx := fun _ H' => Q .non H', rt := Q } (start N vs) H) : At A P w K mg base CX (k + 1) f ps fd sp := by
  obtain ⟨oc, od, kV, doc, pm, an, cdv, ct, osl, rfl, lk, code⟩ := F.ex
  refine ⟨len, fun outer s H args us vs Q E room st0 bind rel pre => ?_⟩
  have nargs := len vs H Q E pre
  have inK : K.In s.heap := st0.mod.kin.keeps fun b o hb => (st0.bs b o hb).1
  have free : s.heap.NoLimit := st0.mod.nolimit.keeps fun b o hb => (st0.bs b o hb).1
  refine codeAny_call_function room.depth (inK _ _ lk) rfl S.co S.gen rfl (PySem.W.codeRec_of inK code) (bind _ _ _ _ ?_)
  have kinds : ∀ y ∈ ps.zip us, (defScope st).names.lookup y.1 = some .local ∨ ((defScope st).names.lookup y.1 = some .cell ∧ ((cellsFrom (s.heap.objs.size + 1) (defScope st).names []).lookup y.1).isSome = true) := by
    rintro ⟨n, v⟩ mem
    exact (S.par n (List.of_mem_zip mem).1).elim .inl fun q => .inr ⟨q, PySem.W.cellsFrom_some _ _ _ (.inl q)⟩
  refine wpAny_newFunctionEnv_cells S.kind kinds fun env eq s1 x => ?_
  subst eq
  refine ⟨free.keeps x.toInCall.keep, codeAny_func ?_⟩
  obtain ⟨t, der, rd⟩ := body cdv outer s H vs Q E (room.deeper _) pre
  have inv0 := inv_start (CX := CX) (E := E) S room.hd st0 nargs rel x
  refine wpAny_mono (der.run [] s1 (start N vs) H _ inv0 rd) (fun way s' out => ?_) fun e s' out => out
  cases way with
  | brk => obtain ⟨_, _, _, no⟩ := out; exact no.elim
  | cont => obtain ⟨_, _, _, no⟩ := out; exact no.elim
  | ret u =>
    obtain ⟨v, σ', H', J, rv, q⟩ := out
    exact (⟨v, H', J.os, J.bare, J.base, J.hok, rv, q⟩ : CE outer P w H s Q u s')
  | next =>
    obtain ⟨σ', H', J, q⟩ := out
    exact (⟨V.non, H', J.os, J.bare, J.base, J.hok, rfl, q⟩ : CE outer P w H s Q Value.none s')
end
/-! f(e, ..), its promise told where the body of the caller stands -/
section
variable {X : Cx} {CX : CXT} {k : Nat} {f : Addr} {fd : FuncData} {ps : List Str} {sp : Sp} {E : XK}
theorem pe_callAt {x : Str} {p pos : Pos} {e : Expr} {es : List Expr} {t : TA} (F : At X.A X.prog X.w X.K X.mg X.base CX k f ps fd sp) (hr : Room k X.A) (hg : Gl X x) (hm : X.mg x = some (.ref f)) (hk : PySem.W.keepIn X.K (.ref f) = true) (hb : Binds X.K fd ps []) (hx : Passes CX X E)
    (ha : PA X (e :: es) t) (hdb : (x == ("__debug__" : Str)) = false := by decide) (he : starEach (e :: es) X.env = (false, eval e X.env) :: starEach es X.env := by rfl) (hpl : (backTo pos (starEach es X.env)).any (·.1) = false := by rfl) :
    PE X (.Call (.Name x p) (e :: es) [] pos) (tCall sp [] E t) := by
  refine ⟨fun pins s σ H Q I h => wpAny_Call_Name_kw (ld_glob I hg hm ?_ hdb)⟩
  refine PySem.W.callWith_K (h₀ := X.base) I.ok.mod.kin hk (thn (ha.run pos pins s σ H _ I h) fun us s1 res => ?_) he hpl
  obtain ⟨vs, H1, I1, rel, pre⟩ := res
  rw [List.append_nil] at pre
  have n1 := F.len _ _ _ _ pre
  have n2 : (us ++ []).length = ps.length := by rw [List.append_nil, ← rel.length]; exact n1
  have bd := hb s1 us I1.kIn n2
  rw [List.append_nil] at bd
  refine ⟨I1.kIn, wpAny_call (codeAny_mono (F.go X.stack s1 H1 ⟨us, []⟩ us vs Q E hr I1.env0 bd rel pre) fun r s' out => ?_)⟩
  cases r with
  | error e => exact hx pins σ H1 s1 e s' I1 out
  | ok fl =>
    cases fl with
    | ret u => exact I1.after out
    | next => exact out.elim
    | brk => exact out.elim
    | cont => exact out.elim
end
/-! ### the law's own call -/
/-- what is tracked at the law's call: the script alone, if the top does not hold it -/
def scriptH (K : PySem.W.Frag) (a : Addr) (vs : List Value) (ns : List Int) : Hp := fun b =>
  if b = a ∧ K.lookup a = none then some (.frz { cls := .type "list", data := .seq vs.toArray } (.lst (ns.map V.int))) else none
theorem scriptH_some {K : PySem.W.Frag} {a : Addr} {vs : List Value} {ns : List Int} {b : Addr} {u : HO} (h : scriptH K a vs ns b = some u) : b = a ∧ K.lookup a = none ∧ u = .frz { cls := .type "list", data := .seq vs.toArray } (.lst (ns.map V.int)) := by
  unfold scriptH at h
  by_cases c : b = a ∧ K.lookup a = none
  · rw [if_pos c] at h
    exact ⟨c.1, c.2, (Option.some.inj h).symm⟩
  · rw [if_neg c] at h
    cases h
theorem law_at {P : Program} {w : World} {K : PySem.W.Frag} {mg mb : Str → Option Value} {k : Nat} {fa a : Addr} {fd : FuncData} {x : Str} {sp : Sp} {s₁ : Shared} {vs : List Value} {ns : List Int}
    (inK : K.In s₁.heap) (glb : s₁.heap.Ns mainGlobals mg) (blt : s₁.heap.Ns builtinsNs mb) (blt2 : ∀ x : Str, x ≠ "__name__" → mb x = bootBuiltins x) (free : s₁.heap.NoLimit) (nogen : s₁.gens = #[])
    (obj : s₁.heap.get? a = some { cls := .type "list", data := .seq vs.toArray }) (nums : IntsAre vs ns) (small : ns.length ≤ sizeLine) (room : Room k callerA)
    (F : ∀ base : Heap, K.In base → base.Ns mainGlobals mg → At callerA P w K mg base CX0 k fa [x] fd sp) (bind : ∀ (s : Shared) (u : Value), BindsTo s fd ⟨[u], []⟩ [(x, u)])
    (pre : ∀ H : Hp, SqL K H a (ns.map V.int) → sp [.ref a] H (fun v _ => v = .bl true) fun _ _ _ => False) :
    codeAny (model P w) callerA (.call (.ref fa) ⟨[.ref a], []⟩) (fun r s' => r = .ok (.ret (.bool true)) ∧ OldK s₁.heap s'.heap ∧ s'.os = s₁.os ∧ AllBare s'.gens) s₁ := by
  have rel := vals_ints nums
  have len := nums.length
  have ok : HOk P w (scriptH K a vs ns) s₁.heap := fun b u hb => by
    obtain ⟨rfl, _, rfl⟩ := scriptH_some hb
    exact ⟨obj, by rw [List.length_map]; exact small, vs, _, rel, obj⟩
  have seen : SqL K (scriptH K a vs ns) a (ns.map V.int) := by
    cases c : K.lookup a with
    | none => exact .inl (.inr ⟨_, if_pos ⟨rfl, c⟩⟩)
    | some o =>
      have q := inK a o c
      rw [obj] at q
      cases q
      exact .inr ⟨_, vs.toArray, _, c, rfl, rfl, rfl, by rw [List.size_toArray, len]; exact small, by simpa using rel⟩
  have hid : ∀ {b : Addr} {o : Obj}, s₁.heap.get? b = some o → scriptH K a vs ns b = none → (hidT s₁.heap (scriptH K a vs ns)).get? b = some o := fun e n => hidT_get e n
  have none_of : ∀ {b : Addr} {o : Obj}, s₁.heap.get? b = some o → (b = a → K.lookup a = none → False) → scriptH K a vs ns b = none := fun {b o} _ no => by
    cases q : scriptH K a vs ns b with
    | none => rfl
    | some u =>
      obtain ⟨h1, h2, _⟩ := scriptH_some q
      exact (no h1 h2).elim
  have nsH : ∀ {b : Addr} {m : Str → Option Value}, s₁.heap.Ns b m → (hidT s₁.heap (scriptH K a vs ns)).Ns b m := fun {b m} n => by
    obtain ⟨o, es, ep, e, d, r⟩ := n
    refine ⟨o, es, ep, hid e (none_of e fun h1 _ => ?_), d, r⟩
    subst h1
    rw [obj] at e
    cases e
    have d' : Data.seq vs.toArray _ = Data.dict es ep := d
    cases d'
  have kH : K.In (hidT s₁.heap (scriptH K a vs ns)) := fun b o e => hid (inK b o e) (none_of (inK b o e) fun h1 h2 => by
    subst h1
    rw [h2] at e
    cases e)
  have mod : Mod K mg (hidT s₁.heap (scriptH K a vs ns)) := ⟨kH, nsH glb, ⟨mb, nsH blt, blt2⟩, let ⟨c, h1, h2⟩ := free; ⟨c, nsH h1, h2⟩⟩
  have st0 : Env0 P w K mg (hidT s₁.heap (scriptH K a vs ns)) callerA [] s₁ (scriptH K a vs ns) :=
    ⟨rfl, mod, fun b o e => of_hidT e, Nat.le_of_eq (hidT_size _ _), trivial, fun b hb => absurd (show b ∈ ([] : List Addr) from hb) List.not_mem_nil, ok, .of_eq nogen⟩
  refine codeAny_mono ((F _ kH (nsH glb)).go [] s₁ (scriptH K a vs ns) ⟨[.ref a], []⟩ [.ref a] [.ref a] _ _ room st0 (bind s₁ (.ref a)) (.cons rfl .nil) (pre _ seen)) fun r s' out => ?_
  cases r with
  | error e => exact out.elim
  | ok fl =>
    cases fl with
    | next => exact out.elim
    | brk => exact out.elim
    | cont => exact out.elim
    | ret u =>
      obtain ⟨v, H', os, bare, un, ok', rv, q⟩ := out
      obtain rfl : v = .bl true := q
      obtain rfl : u = Value.bool true := rv
      refine ⟨rfl, OldK.of_keep fun b o e => ?_, os, bare⟩
      cases c : scriptH K a vs ns b with
      | none => exact un.keep b o e c (fun z => absurd (show b ∈ ([] : List Addr) from z) List.not_mem_nil) (by simp)
      | some u =>
        obtain ⟨_, _, rfl⟩ := scriptH_some c
        obtain ⟨e1, _⟩ := ok b _ c
        obtain ⟨e2, _⟩ := ok' b _ (un.frzs b _ _ c)
        rw [e] at e1
        cases e1
        exact e2
theorem walk_at_of {l : PySem.W.OpenLaw} {n k : Nat} {q : Program} {loose : List Str} {XP : (Str → Option Value) → Heap → Prop} {YP : World → Heap → Prop} {d : DefRec} {K : Params → PySem.W.Frag} {sp : World → Sp} {x : Str}
    (most : l.most = some n) (small : n ≤ sizeLine) (nodef : d.params.defaults = []) (room : Room k callerA) (inK : ∀ (w : World) (h : Heap), YP w h → (K w.params).In h)
    (F : ∀ (w : World) (mg : Str → Option Value) (fa : Addr) (h : Heap), (K w.params).In h → h.Ns mainGlobals mg → mg d.name = some (.ref fa) →
      ∃ fd : FuncData, (∀ (s : Shared) (u : Value), BindsTo s fd ⟨[u], []⟩ [(x, u)]) ∧ ∀ base : Heap, (K w.params).In base → base.Ns mainGlobals mg → At callerA l.prog w (K w.params) mg base CX0 k fa [x] fd (sp w))
    (pre : ∀ (w : World) (H : Hp) (a : Addr) (ns : List Int), ns.length ≤ n → SqL (K w.params) H a (ns.map V.int) → sp w [.ref a] H (fun v _ => v = .bl true) fun _ _ _ => False) :
    PySem.W.WalkO q loose XP YP l.row.toRowW d [] (fun f vs => PySem.call f vs) :=
  Att.attach_call most nodef fun w s₀ s₁ mg mb fa o pm cd doc a vs ns G Y ho hd hcd hmg obj nums len nogen => by
    have kx := inK w _ Y
    obtain ⟨fd, bind, promise⟩ := F w mg fa _ kx G.T.g hmg
    exact law_at kx G.T.g G.T.b G.T.builtins G.T.nolimit nogen obj nums (Nat.le_trans len small) room promise bind fun H hS => pre w H a ns len hS
/-! ### repr -/
theorem guards_deeper {A : Around} {env : Env} (h : A.guards = some []) : (A.deeper env).guards = some [] := h
def rRepr (K : PySem.W.Frag) : List V → Hp → VK → Prop := fun xs H Q => ∃ v d, xs = [v] ∧ Dp K H v d ∧ d.showable = true ∧ d.hasDict = false ∧ d.depth ≤ 60 ∧ d.shown.length ≤ sizeLine ∧ Q (.str d.shown) H
theorem call_reprD {X : Cx} {k : Nat} (hr : Room k X.A) (hg : X.A.guards = some []) : CallR X (.builtin "repr") (rRepr X.K) := by
  intro pins s σ H xs us Q I r h
  obtain ⟨v, d, rfl, hd, sh, nd, dp, ln, q⟩ := h
  obtain ⟨u, rfl, ru⟩ := vals1 r
  cases hd with
  | non => obtain rfl : u = Value.none := ru; exact PySem.P.repr_of_none ⟨.str _, H, I.tok _, ⟨_, rfl⟩, q⟩
  | bl b =>
    obtain rfl : u = Value.bool b := ru
    refine PySem.P.repr_of_bool ⟨.str _, H, I.tok _, ⟨_, rfl⟩, ?_⟩
    exact q
  | int i =>
    obtain ⟨t, rfl⟩ := (show ∃ t, u = Value.int i t from ru)
    exact PySem.P.repr_of_int (by simpa [PyData.showable] using sh) ⟨.str _, H, I.tok _, ⟨_, rfl⟩, q⟩
  | str x =>
    obtain ⟨t, rfl⟩ := (show ∃ t, u = Value.str x t from ru)
    exact PySem.P.repr_of_str ⟨.str _, H, I.tok _, ⟨_, rfl⟩, q⟩ ln
  | lst h1 h2 =>
    obtain ⟨as, rd⟩ := Dp.reads I _ _ u (.lst h1 h2) ru
    cases (show u = Value.ref _ from ru)
    exact repr_of_reads' rd sh (fun z => by rw [nd] at z; cases z) hg (by have := hr.units; omega) (fun _ _ e => e) (fun h' t tk hk => ⟨.str _, H, I.kept (t' := tk) hk, ⟨_, rfl⟩, q⟩) ln
  | tup h1 h2 =>
    obtain ⟨as, rd⟩ := Dp.reads I _ _ u (.tup h1 h2) ru
    cases (show u = Value.ref _ from ru)
    exact repr_of_reads' rd sh (fun z => by rw [nd] at z; cases z) hg (by have := hr.units; omega) (fun _ _ e => e) (fun h' t tk hk => ⟨.str _, H, I.kept (t' := tk) hk, ⟨_, rfl⟩, q⟩) ln
section
variable {P : Program} {w : World} {K : PySem.W.Frag} {mg : Str → Option Value} {base : Heap}
/-- the same where nothing is let out -/
theorem fun_at0 {A : Around} {x qual : Str} {st : Stmt} {f : Addr} {fd : FuncData} {N ps : List Str} {k : Nat} {sp : Sp} (F : Fun K x qual st f fd) (S : FnScope N ps (defScope st)) (len : ∀ vs H Q E, sp vs H Q E → vs.length = ps.length)
    (body : ∀ (cdv : Value) (outer : List Env) (s : Shared) (H : Hp) (vs : List V) (Q : VK) (E : XK), Room k (A.deeper (envOfC qual (defScope st) s.heap.objs.size f cdv)) → sp vs H Q E →
      ∃ t, PSs (cxOf CX0 P w K mg base N qual (defScope st) f cdv A outer s H E).nox (defBody st) t ∧ t { nx := fun _ H' => Q .non H', rt := Q } (start N vs) H) : At A P w K mg base CX0 (k + 1) f ps fd sp :=
  fun_at F S len fun cdv outer s H vs Q E hr hsp => by
    obtain ⟨t, h, q⟩ := body cdv outer s H vs Q E hr hsp
    exact ⟨t, h.nox, q⟩
end
end Rs
/-! o & p, o <= p and the like by own methods, both of one class. -/
namespace Rs
open PySem PySem.Spec PyProof.Rows L2
section
variable {X : Cx} {CX : CXT} {C g : Addr} {n : Nat} {sp : Sp} {E : XK}
/-- x op y by the class's own method, both instances of the class at C; the answer is not NotImplemented: no value here is -/
def rBinM (C : Addr) (sp : Sp) (E : XK) : R2 := fun x y H Q => ∃ a dx fs b dy gs, x = .ref a ∧ y = .ref b ∧ H a = some (.ins C dx fs) ∧ H b = some (.ins C dy gs) ∧ sp [x, y] H Q E
theorem op_binM {op : Operator} (M : Meth X.K C (dunder op.info.snd) g) (hc : PySem.W.selfFirst X.K C = true) (F : FnR X.prog X.w X.K X.mg X.base CX n g sp) (hr : Room n X.A) (hx : Passes CX X E) : OpR X (binaryOp op) (rBinM C sp E) := by
  intro pins s σ H x y v u Q I rx ry h
  obtain ⟨a, dx, fs, b, dy, gs, rfl, rfl, ha, hb, q⟩ := h
  cases (show v = Value.ref a from rx)
  cases (show u = Value.ref b from ry)
  obtain ⟨ox, od, J⟩ := ins_at I ha
  obtain ⟨oy, ody, Jb⟩ := ins_at I hb
  obtain ⟨m, hF⟩ := I.fr
  refine PySem.W.binop_K hF I.ok.mod.kin J Jb.type hc M.at_ M.fn ?_
  refine wpAny_mono (wpAny_call (run_fnR (us := [.ref a, .ref b]) (vs := [.ref a, .ref b]) F hr hx I (.cons rfl (.cons rfl .nil)) q)) (fun w s' z => ?_) fun _ _ x => x
  obtain ⟨z', H', I', rz, qz⟩ := z
  exact SlX.cmpback rz ⟨z', H', I', rz, qz⟩
/-- x <= y and the like -/
theorem op_cmpM {op : CmpOp} (ho : compareOp op = richCompare op) (M : Meth X.K C ((cmpInfo op).snd.fst) g) (F : FnR X.prog X.w X.K X.mg X.base CX n g sp) (hr : Room n X.A) (hx : Passes CX X E) : OpR X (compareOp op) (rBinM C sp E) := by
  intro pins s σ H x y v u Q I rx ry h
  obtain ⟨a, dx, fs, b, dy, gs, rfl, rfl, ha, hb, q⟩ := h
  cases (show v = Value.ref a from rx)
  cases (show u = Value.ref b from ry)
  obtain ⟨ox, od, J⟩ := ins_at I ha
  obtain ⟨oy, ody, Jb⟩ := ins_at I hb
  obtain ⟨m, hF⟩ := I.fr
  rw [ho]
  refine PySem.W.cmp_K (op := op) (tb := .ref C) hr.units0 hF I.ok.mod.kin J Jb.type notFirst_self M.at_ M.fn ?_
  refine wpAny_mono (wpAny_call (run_fnR (us := [.ref a, .ref b]) (vs := [.ref a, .ref b]) F hr hx I (.cons rfl (.cons rfl .nil)) q)) (fun w s' z => ?_) fun _ _ x => x
  obtain ⟨z', H', I', rz, qz⟩ := z
  exact SlX.cmpback rz ⟨z', H', I', rz, qz⟩
theorem cmpLe : compareOp .LtE = richCompare .LtE := rfl
theorem cmpLt : compareOp .Lt = richCompare .Lt := rfl
theorem cmpGe : compareOp .GtE = richCompare .GtE := rfl
theorem cmpGt : compareOp .Gt = richCompare .Gt := rfl
end
end Rs
/-! list(zip(a, b)) of two lists. -/
namespace Rs
open PySem PySem.Spec PyProof.Rows L2
theorem wpAny_alive {M : Model} {A : Around} {E : Value → Shared → Prop} {s : Shared} {a : Addr} {Q : Option Obj → Shared → Prop} (h : Q (s.heap.get? a) s) : wpAny M A (Sem.loadIfAlive a Sem.pure) Q E s := by
  intro Γ p hΓ
  rw [Sem.wp_loadIfAlive]
  exact h
def zipO (T0 : Addr) (t : Tok) (fl : Bool) (TI TO : Addr) : Obj := { cls := .type "zip", data := .fields #[.int (T0 : Int) t, .bool fl, .bool false, .ref TI, .ref TO] }
section
variable {prog : Program} {w : World} {A : Around} {E : Value → Shared → Prop} {z TI TO i1 i2 l1 l2 T0 : Addr} {k : Nat} {xs ys : Array Value} {x y a b : Value} {o : Obj} {t : Tok} 
theorem draw1 {s : Shared} {it l : Addr} (hA : A.handled = none) (ne : l ≠ it) (h1 : s.heap.IsListIter it l k) (h2 : s.heap.IsList l xs) (hx : xs[k]? = some x) {Q : Value → Shared → Prop}
    (q : ∀ h' tk, h'.IsListIter it l (k + 1) → Heap.SameBut it s.heap h' → Q x { heap := h', gens := s.gens, drawn := s.drawn, toks := tk, os := s.os }) : wpAny (model prog w) A (Builtin.SmallTypes.nextOf (.ref it)) Q E s := by
  have lt : k < xs.size := by
    rcases Nat.lt_or_ge k xs.size with h | h
    · exact h
    · rw [Array.getElem?_eq_none h] at hx
      cases hx
  refine (Draws.list (prog := prog) (w := w) hA it l ne xs).item k s Q E lt ⟨h1, h2⟩ (fun v h' tk hv st sb => ?_)
  rw [hx] at hv
  injection hv with hv
  subst hv
  exact q h' tk st.1 sb
theorem iter_but {h h' : Heap} {c it l : Addr} {i : Nat} (sb : Heap.SameBut c h h') (ne : it ≠ c) (q : h.IsListIter it l i) : h'.IsListIter it l i := by
  obtain ⟨o, e, r⟩ := q
  exact ⟨o, by rw [sb.2 _ ne]; exact e, r⟩
theorem list_but {h h' : Heap} {c l : Addr} {xs : Array Value} (sb : Heap.SameBut c h h') (ne : l ≠ c) (q : h.IsList l xs) : h'.IsList l xs := by
  obtain ⟨o, e, r⟩ := q
  exact ⟨o, by rw [sb.2 _ ne]; exact e, r⟩
theorem owned_no {s : Shared} {fl : Bool} {Q : Bool → Shared → Prop}
    (hz : s.heap.get? z = some { cls := .type "zip", data := .fields #[.int (T0 : Int) t, .bool fl, .bool false, .ref TI, .ref TO] }) (hT : s.heap.get? T0 = some o)
    (q : ∀ h', h'.get? z = some { cls := .type "zip", data := .fields #[.int (T0 : Int) t, .bool true, .bool false, .ref TI, .ref TO] } → Heap.SameBut z s.heap h' →
      Q false { heap := h', gens := s.gens, drawn := s.drawn, toks := s.toks, os := s.os }) :
    wpAny (model prog w) A (Builtin.SmallTypes.ownedTupleIsFree (.ref z)) Q E s := by
  unfold Builtin.SmallTypes.ownedTupleIsFree
  refine wpAny_bind (wpAny_field hz rfl rfl ?_)
  dsimp only
  refine wpAny_bind (wpAny_alive ?_)
  rw [show ((T0 : Int)).toNat = T0 from Int.toNat_natCast T0, hT]
  rw [if_neg (by simp)]
  refine wpAny_bind (wpAny_field hz rfl rfl ?_)
  cases fl
  · split
    · refine wpAny_bind (wpAny_setField hz rfl (show 1 < 5 by decide) (wpAny_pure ?_))
      exact q _ (Heap.get?_update_self _ hz rfl) (Heap.SameBut.update _ _ _)
    · rename_i c
      exact absurd rfl c
  · split
    · rename_i c
      exact absurd c (by simp)
    · exact wpAny_pure (q s.heap hz ⟨rfl, fun _ _ => rfl⟩)
/-- one more pair, the elder one of the zip being held -/
theorem zip_again {s : Shared} {fl : Bool} {Q : PySem.Fin → Shared → Prop} (hA : A.handled = none) (ap : ZipApart z TI TO i1 i2 l1 l2)
    (hz : s.heap.get? z = some { cls := .type "zip", data := .fields #[.int (T0 : Int) t, .bool fl, .bool false, .ref TI, .ref TO] }) (hT : s.heap.get? T0 = some o)
    (hTI : s.heap.get? TI = some { cls := .type "tuple", data := .seq #[.ref i1, .ref i2] })
    (h1 : s.heap.IsListIter i1 l1 k) (h2 : s.heap.IsListIter i2 l2 k) (g1 : s.heap.IsList l1 xs) (g2 : s.heap.IsList l2 ys) (hx : xs[k]? = some x) (hy : ys[k]? = some y)
    (q : ∀ h' tk, h'.get? z = some { cls := .type "zip", data := .fields #[.int (T0 : Int) t, .bool true, .bool false, .ref TI, .ref TO] } → h'.IsListIter i1 l1 (k + 1) → h'.IsListIter i2 l2 (k + 1) →
      h'.get? s.heap.objs.size = some { cls := .type "tuple", data := .seq #[x, y] } → h'.objs.size = s.heap.objs.size + 1 →
      (∀ c o, c ≠ z → c ≠ i1 → c ≠ i2 → s.heap.get? c = some o → h'.get? c = some o) → Q (.done (.ret (.ref s.heap.objs.size))) { heap := h', gens := s.gens, drawn := s.drawn, toks := tk, os := s.os }) :
    wpAny (model prog w) A (Builtin.«zip.__next__» ⟨[.ref z], []⟩) Q E s := by
  unfold Builtin.«zip.__next__»
  repeat (first
    | (refine owned_no hz hT (fun h0 hz0 sb0 => ?_))
    | (refine draw1 hA ap.l2i2 (iter_but sb ap.i12.symm (iter_but sb0 ap.i2z h2)) (list_but sb ap.l2i1 (list_but sb0 ap.l2z g2)) hy (fun h3 tk3 j2 sb3 => ?_))
    | (refine draw1 hA ap.l1i1 (iter_but sb0 ap.i1z h1) (list_but sb0 ap.l1z g1) hx (fun h' tk j1 sb => ?_))
    | wp_step)
  have sz : h3.objs.size = s.heap.objs.size := sb3.1.trans (sb.1.trans sb0.1)
  have old : ∀ c o, c ≠ z → c ≠ i1 → c ≠ i2 → s.heap.get? c = some o → h3.get? c = some o := fun c o c1 c2 c3 h => by
    rw [sb3.2 c c3, sb.2 c c2, sb0.2 c c1]
    exact h
  have z3 : h3.get? z = some { cls := .type "zip", data := .fields #[.int (T0 : Int) t, .bool true, .bool false, .ref TI, .ref TO] } := by
    rw [sb3.2 z ap.i2z.symm, sb.2 z ap.i1z.symm]
    exact hz0
  rw [sz]
  refine q _ _ (Heap.get?_push_of_some _ z3) ?_ ?_ ?_ ?_ ?_
  · obtain ⟨o, e, r⟩ := iter_but sb3 ap.i12 j1
    exact ⟨o, Heap.get?_push_of_some _ e, r⟩
  · obtain ⟨o, e, r⟩ := j2
    exact ⟨o, Heap.get?_push_of_some _ e, r⟩
  · rw [← sz]
    exact Heap.get?_push_size _ rfl
  · rw [Heap.size_push, sz]
  · intro c o c1 c2 c3 h
    exact Heap.get?_push_of_some _ (old c o c1 c2 c3 h)
end
end Rs
namespace Rs
open PySem PySem.Spec PyProof.Rows L2
section
variable {prog : Program} {w : World} {A : Around} {E : Value → Shared → Prop} {z TI TO i1 i2 l1 l2 T0 : Addr} {k : Nat} {xs ys : Array Value} {x y a b : Value} {o : Obj} {t : Tok} 
theorem draw_end {s : Shared} {it l : Addr} (hA : A.handled = none) (ne : l ≠ it) (h1 : s.heap.IsListIter it l xs.size) (h2 : s.heap.IsList l xs) {Q : Value → Shared → Prop}
    (q : ∀ h' e, Heap.ExtBut it s.heap h' → (∃ o, h'.get? e = some o ∧ o.cls = .type "StopIteration") → E (.ref e) { heap := h', gens := s.gens, drawn := s.drawn, toks := s.toks, os := s.os }) : wpAny (model prog w) A (Builtin.SmallTypes.nextOf (.ref it)) Q E s :=
  (Draws.list (prog := prog) (w := w) hA it l ne xs).done s Q E ⟨h1, h2⟩ q
/-- the first list is at its end -/
theorem zip_over {s : Shared} {fl : Bool} {Q : PySem.Fin → Shared → Prop} (hA : A.handled = none) (ap : ZipApart z TI TO i1 i2 l1 l2)
    (hz : s.heap.get? z = some { cls := .type "zip", data := .fields #[.int (T0 : Int) t, .bool fl, .bool false, .ref TI, .ref TO] }) (hT : s.heap.get? T0 = some o)
    (hTI : s.heap.get? TI = some { cls := .type "tuple", data := .seq #[.ref i1, .ref i2] })
    (h1 : s.heap.IsListIter i1 l1 xs.size) (g1 : s.heap.IsList l1 xs)
    (q : ∀ h' e, (∀ c o, c ≠ z → c ≠ i1 → s.heap.get? c = some o → h'.get? c = some o) → (∃ o, h'.get? e = some o ∧ o.cls = .type "StopIteration") → E (.ref e) { heap := h', gens := s.gens, drawn := s.drawn, toks := s.toks, os := s.os }) :
    wpAny (model prog w) A (Builtin.«zip.__next__» ⟨[.ref z], []⟩) Q E s := by
  unfold Builtin.«zip.__next__»
  repeat (first
    | (refine owned_no hz hT (fun h0 hz0 sb0 => ?_))
    | (refine draw_end hA ap.l1i1 (iter_but sb0 ap.i1z h1) (list_but sb0 ap.l1z g1) (fun h' e ex ho => q h' e (fun c o c1 c2 h => ex c o c2 (by rw [sb0.2 c c1]; exact h)) ho))
    | wp_step)
theorem zip_next {s : Shared} {Q : Option Value → Shared → Prop} {fl : Bool} (hA : A.handled = none) (ap : ZipApart z TI TO i1 i2 l1 l2)
    (hz : s.heap.get? z = some { cls := .type "zip", data := .fields #[.int (T0 : Int) t, .bool fl, .bool false, .ref TI, .ref TO] }) (hT : s.heap.get? T0 = some o)
    (hTI : s.heap.get? TI = some { cls := .type "tuple", data := .seq #[.ref i1, .ref i2] })
    (h1 : s.heap.IsListIter i1 l1 k) (h2 : s.heap.IsListIter i2 l2 k) (g1 : s.heap.IsList l1 xs) (g2 : s.heap.IsList l2 ys) (hx : xs[k]? = some x) (hy : ys[k]? = some y)
    (q : ∀ h' tk, h'.get? z = some { cls := .type "zip", data := .fields #[.int (T0 : Int) t, .bool true, .bool false, .ref TI, .ref TO] } → h'.IsListIter i1 l1 (k + 1) → h'.IsListIter i2 l2 (k + 1) →
      h'.get? s.heap.objs.size = some { cls := .type "tuple", data := .seq #[x, y] } → h'.objs.size = s.heap.objs.size + 1 →
      (∀ c o, c ≠ z → c ≠ i1 → c ≠ i2 → s.heap.get? c = some o → h'.get? c = some o) → Q (some (.ref s.heap.objs.size)) { heap := h', gens := s.gens, drawn := s.drawn, toks := tk, os := s.os }) :
    wpAny (model prog w) A (pyNext (.ref z)) Q E s := by
  unfold pyNext
  refine wpAny_bind (wpAny_attempt (wpAny_callSpecial?_slot (T := "zip") ⟨_, hz, rfl⟩ F.slot_zip_next (wpAny_call (codeAny_call_builtin F.slot_zip_next.plain F.entry_zip_next ?_))))
  refine F.slot_zip_next.check _ _ _ s (.ref z) [] [] _ ⟨_, hz, rfl⟩ (F.args_zip_next_1 _) ?_
  exact zip_again (A := A.in1) hA ap hz hT hTI h1 h2 g1 g2 hx hy (fun h' tk a1 a2 a3 a4 a5 a6 => wpAny_pure (q h' tk a1 a2 a3 a4 a5 a6))
theorem zip_end {s : Shared} {Q : Option Value → Shared → Prop} {fl : Bool} (hA : A.handled = none) (ap : ZipApart z TI TO i1 i2 l1 l2)
    (hz : s.heap.get? z = some { cls := .type "zip", data := .fields #[.int (T0 : Int) t, .bool fl, .bool false, .ref TI, .ref TO] }) (hT : s.heap.get? T0 = some o)
    (hTI : s.heap.get? TI = some { cls := .type "tuple", data := .seq #[.ref i1, .ref i2] })
    (h1 : s.heap.IsListIter i1 l1 xs.size) (g1 : s.heap.IsList l1 xs)
    (q : ∀ h', (∀ c o, c ≠ z → c ≠ i1 → s.heap.get? c = some o → h'.get? c = some o) → Q none { heap := h', gens := s.gens, drawn := s.drawn, toks := s.toks, os := s.os }) :
    wpAny (model prog w) A (pyNext (.ref z)) Q E s := by
  unfold pyNext
  refine wpAny_bind (wpAny_attempt (wpAny_callSpecial?_slot (T := "zip") ⟨_, hz, rfl⟩ F.slot_zip_next (wpAny_call (codeAny_call_builtin F.slot_zip_next.plain F.entry_zip_next ?_))))
  refine F.slot_zip_next.check _ _ _ s (.ref z) [] [] _ ⟨_, hz, rfl⟩ (F.args_zip_next_1 _) ?_
  refine zip_over (A := A.in1) hA ap hz hT hTI h1 g1 (fun h' e old ho => ?_)
  obtain ⟨o, ho, hc⟩ := ho
  dsimp only
  refine wpAny_bind (wpAny_isInstance (T := "StopIteration") (b := true) ⟨o, ho, hc⟩ (by first | rfl | simp [isSubtype] | decide) ?_)
  rw [if_pos rfl]
  exact wpAny_pure (q h' old)
/-- how a zip stands behind k pairs, the first one at T0 -/
structure ZSt (h : Heap) (z TI TO i1 i2 l1 l2 T0 : Addr) (xs ys : Array Value) (k : Nat) : Prop where
  zip : ∃ t fl, h.get? z = some { cls := .type "zip", data := .fields #[.int (T0 : Int) t, .bool fl, .bool false, .ref TI, .ref TO] }
  old : ∃ o, h.get? T0 = some o
  its : h.get? TI = some { cls := .type "tuple", data := .seq #[.ref i1, .ref i2] }
  at1 : h.IsListIter i1 l1 k
  at2 : h.IsListIter i2 l2 k
  li1 : h.IsList l1 xs
  li2 : h.IsList l2 ys
/-- the pairs laid down so far -/
structure ZOut (h : Heap) (lo : Nat) (xs ys : Array Value) (as : List Addr) : Prop where
  rise : as.Pairwise (· < ·)
  above : ∀ a ∈ as, lo ≤ a
  pairs : ∀ (j : Nat) (a : Addr), as[j]? = some a → ∃ x y, xs[j]? = some x ∧ ys[j]? = some y ∧ h.get? a = some { cls := .type "tuple", data := .seq #[x, y] }
theorem far {a b lo : Nat} (h : b < lo) (h2 : lo ≤ a) : a ≠ b := by omega
theorem ZOut.snoc {h h' : Heap} {lo : Nat} {xs ys : Array Value} {as : List Addr} {x y : Value} {n : Nat} (q : ZOut h lo xs ys as) (hn : as.length = n) (hx : xs[n]? = some x) (hy : ys[n]? = some y) (ho : ∀ a ∈ as, ∀ o, h.get? a = some o → h'.get? a = some o) (hl : lo ≤ h.objs.size)
    (hw : h'.get? h.objs.size = some { cls := .type "tuple", data := .seq #[x, y] }) : ZOut h' lo xs ys (as ++ [h.objs.size]) where
  rise := by
    rw [List.pairwise_append]
    refine ⟨q.rise, List.pairwise_singleton _ _, fun a ha b hb => ?_⟩
    rw [List.mem_singleton] at hb
    subst hb
    obtain ⟨j, hj⟩ := List.getElem?_of_mem ha
    obtain ⟨_, _, _, _, e⟩ := q.pairs j a hj
    exact Heap.lt_size e
  above := fun a ha => by
    rcases List.mem_append.mp ha with ha | ha
    · exact q.above a ha
    · rw [List.mem_singleton] at ha
      exact ha ▸ hl
  pairs := fun j a e => by
    rcases Nat.lt_or_ge j as.length with lt | ge
    · rw [List.getElem?_append_left lt] at e
      obtain ⟨x', y', ex, ey, et⟩ := q.pairs j a e
      exact ⟨x', y', ex, ey, ho a (List.mem_of_getElem? e) _ et⟩
    · rw [List.getElem?_append_right ge] at e
      have j0 : j - as.length = 0 := by
        rcases Nat.eq_zero_or_pos (j - as.length) with z | z
        · exact z
        · rw [List.getElem?_eq_none (by simp; omega)] at e
          cases e
      rw [j0] at e
      injection e with e
      subst e
      have : j = n := by omega
      subst this
      exact ⟨x, y, hx, hy, hw⟩
theorem quietL {args : Args} : (Code.builtin "list.extend.loop" args).quiet = true := by
  first | exact Code.quiet_builtin _ (by decide +kernel) | exact plainId_quiet (by decide +kernel) _
theorem zip_loop {R : Result → Shared → Prop} (hA : A.handled = none) (ap : ZipApart z TI TO i1 i2 l1 l2) (hl : xs.size = ys.size) (hs : xs.size ≤ sizeLine) {S : Addr} (ne : S ≠ z ∧ S ≠ TI ∧ S ≠ i1 ∧ S ≠ i2 ∧ S ≠ l1 ∧ S ≠ l2 ∧ S ≠ T0 ∧ S ≠ TO) (T0z : T0 ≠ z ∧ T0 ≠ i1 ∧ T0 ≠ i2) (res : Value) {lo : Nat} (lz : z < lo ∧ i1 < lo ∧ i2 < lo ∧ S < lo) (h0 : Heap) (s0 : Shared)
    (fin : ∀ (s' : Shared) (acc : Array Value) (c : Nat) (as : List Addr), s'.gens = s0.gens ∧ s'.drawn = s0.drawn ∧ s'.os = s0.os → (∀ b o, b ≠ z → b ≠ i1 → b ≠ i2 → b ≠ S → h0.get? b = some o → s'.heap.get? b = some o) → s'.heap.get? S = some { cls := .type "list", data := .seq acc c } →
      acc.toList = as.map Value.ref → as.length = xs.size → ZOut s'.heap lo xs ys as → R (.ok (.ret res)) s') :
    ∀ (d k : Nat) (s : Shared) (acc : Array Value) (c : Nat) (as : List Addr), (s.gens = s0.gens ∧ s.drawn = s0.drawn ∧ s.os = s0.os) → xs.size - k = d → k ≤ xs.size → lo ≤ s.heap.objs.size → ZSt s.heap z TI TO i1 i2 l1 l2 T0 xs ys k → (∀ b o, b ≠ z → b ≠ i1 → b ≠ i2 → b ≠ S → h0.get? b = some o → s.heap.get? b = some o) →
      s.heap.get? S = some { cls := .type "list", data := .seq acc c } → acc.toList = as.map Value.ref → as.length = k → ZOut s.heap lo xs ys as →
      codeAny (model prog w) A (.builtin "list.extend.loop" { pos := [.ref S, .ref z, res] }) R s := by
  intro d
  induction d with
  | zero =>
    intro k s acc c as he hd hk hlo zs old hS ha hn zo
    obtain ⟨t, fl, hz⟩ := zs.zip
    obtain ⟨o, hT⟩ := zs.old
    have ek : k = xs.size := by omega
    subst ek
    refine codeAny_builtin F.entry_extend_loop ?_
    unfold Builtin.«list.extend.loop»
    dsimp only
    refine wpAny_bind (zip_end (A := A.under _) hA ap hz hT zs.its zs.at1 zs.li1 (fun h' kp => ?_))
    dsimp only
    have kS : ∀ b o, b ≠ z → b ≠ i1 → b ≠ i2 → b ≠ S → h0.get? b = some o → h'.get? b = some o := fun b o b1 b2 b3 b4 h => kp b o b1 b2 (old b o b1 b2 b3 b4 h)
    refine wpAny_pure (fin _ acc c as he kS (kp _ _ ne.1 ne.2.2.1 hS) ha hn ⟨zo.rise, zo.above, fun j a e => ?_⟩)
    obtain ⟨x, y, ex, ey, et⟩ := zo.pairs j a e
    have := zo.above a (List.mem_of_getElem? e)
    exact ⟨x, y, ex, ey, kp _ _ (far lz.1 this) (far lz.2.1 this) et⟩
  | succ d ih =>
    intro k s acc c as he hd hk hlo zs old hS ha hn zo
    obtain ⟨t, fl, hz⟩ := zs.zip
    obtain ⟨o, hT⟩ := zs.old
    have lt : k < xs.size := by omega
    have lt2 : k < ys.size := by omega
    have hx : xs[k]? = some xs[k] := Array.getElem?_eq_getElem lt
    have hy : ys[k]? = some ys[k] := Array.getElem?_eq_getElem lt2
    have al : acc.size = k := by
      have := congrArg List.length ha
      rw [Array.length_toList, List.length_map] at this
      omega
    refine codeAny_builtin F.entry_extend_loop ?_
    unfold Builtin.«list.extend.loop»
    dsimp only
    refine wpAny_bind (zip_next (A := A.under _) hA ap hz hT zs.its zs.at1 zs.at2 zs.li1 zs.li2 hx hy (fun h' tk z' j1 j2 tp sz kp => ?_))
    dsimp only
    have hS' := kp S _ ne.1 ne.2.2.1 ne.2.2.2.1 hS
    refine wpAny_bind (wpAny_updateSeq (f := fun v => v.push (.ref s.heap.objs.size)) hS' rfl ?_ (by omega) (by rw [Array.size_push]; omega))
    have sb := Heap.SameBut.update h' S (Obj.mapSeq fun v => v.push (.ref s.heap.objs.size))
    have hS2 := Heap.get?_update_self (Obj.mapSeq fun v => v.push (.ref s.heap.objs.size)) hS' rfl
    generalize h'.update S (Obj.mapSeq fun v => v.push (.ref s.heap.objs.size)) = h2 at sb hS2
    have nS : s.heap.objs.size ≠ S := far lz.2.2.2 hlo
    have kp2 : ∀ b o, b ≠ z → b ≠ i1 → b ≠ i2 → b ≠ S → s.heap.get? b = some o → h2.get? b = some o := fun b o b1 b2 b3 b4 h => by
      rw [sb.2 b b4]
      exact kp b o b1 b2 b3 h
    have lst : ∀ {l : Addr} {vs : Array Value}, l ≠ z → l ≠ i1 → l ≠ i2 → S ≠ l → s.heap.IsList l vs → h2.IsList l vs := fun n1 n2 n3 n4 q => by
      obtain ⟨o, e, r⟩ := q
      exact ⟨o, kp2 _ _ n1 n2 n3 n4.symm e, r⟩
    refine wpAny_pure ⟨quietL, ih (k + 1) _ _ _ (as ++ [s.heap.objs.size]) he (by omega) lt (by show lo ≤ h2.objs.size; rw [sb.1, sz]; omega) ⟨⟨t, true, ?_⟩, ⟨o, kp2 _ _ T0z.1 T0z.2.1 T0z.2.2 ne.2.2.2.2.2.2.1.symm hT⟩, kp2 _ _ ap.TIz ap.TIi1 ap.TIi2 ne.2.1.symm zs.its, iter_but sb ne.2.2.1.symm j1, iter_but sb ne.2.2.2.1.symm j2, lst ap.l1z ap.l1i1 ap.l1i2 ne.2.2.2.2.1 zs.li1, lst ap.l2z ap.l2i1 ap.l2i2 ne.2.2.2.2.2.1 zs.li2⟩ (fun b o b1 b2 b3 b4 h => kp2 b o b1 b2 b3 b4 (old b o b1 b2 b3 b4 h)) hS2 ?_ (by rw [List.length_append, hn]; rfl) (zo.snoc hn hx hy (fun a ha' o e => ?_) hlo ?_)⟩
    · show h2.get? z = _
      rw [sb.2 z ne.1.symm]
      exact z'
    · rw [Array.toList_push, ha, List.map_append]
      rfl
    · have := zo.above a ha'
      exact kp2 a o (far lz.1 this) (far lz.2.1 this) (far lz.2.2.1 this) (far lz.2.2.2 this) e
    · show h2.get? _ = _
      rw [sb.2 _ nS]
      exact tp
end
end Rs
open PySem PySem.Spec PyProof.Rows L2
namespace Rs
section
variable {prog : Program} {w : World} {A : Around} {E : Value → Shared → Prop} {z TI TO i1 i2 l1 l2 T0 : Addr} {k : Nat} {xs ys : Array Value} {x y a b : Value} {o : Obj} {t : Tok} 
theorem zip_nolen : typeLookup (.type "zip") (Str.ofString "__len__") = pure none := rfl
theorem zip_nohint : typeLookup (.type "zip") (Str.ofString "__length_hint__") = pure none := rfl
/-- how a new zip stands -/
structure ZNew (h : Heap) (z TI TO i1 i2 l1 l2 : Addr) (xs ys : Array Value) : Prop where
  zip : IsZip h z TI TO .none
  its : IsPair h TI (.ref i1) (.ref i2)
  own : IsPair h TO .none .none
  at1 : h.IsListIter i1 l1 0
  at2 : h.IsListIter i2 l2 0
  li1 : h.IsList l1 xs
  li2 : h.IsList l2 ys
theorem ext_zip {R : Result → Shared → Prop} {s : Shared} {S : Addr} {res : Value} {c0 : Nat} (hA : A.handled = none) (ap : ZipApart z TI TO i1 i2 l1 l2)
    (zn : ZNew s.heap z TI TO i1 i2 l1 l2 xs ys) (nSz : S ≠ z)
    (hS : s.heap.get? S = some { cls := .type "list", data := .seq #[] c0 })
    (q : ∀ h' c, h'.get? S = some { cls := .type "list", data := .seq #[] c } → Heap.SameBut S s.heap h' → codeAny (model prog w) A (.builtin "list.extend.loop" { pos := [.ref S, .ref z, res] }) R { s with heap := h' }) :
    wpAny (model prog w) A.in1 (Builtin.List.listExtendWith (.ref S) (.ref z) res)
      (fun fin s' => match fin with | .done f => R (.ok f) s' | .again c' => c'.quiet = true ∧ codeAny (model prog w) A c' R s') (fun e s' => R (.error e) s') s := by
  have hz := zn.zip
  have iter : ∀ {E1 : Value → Shared → Prop} {Q1 : Value → Shared → Prop}, Q1 (.ref z) s → wpAny (model prog w) A.in1 (pyIter (.ref z)) Q1 E1 s := fun {E1 Q1} h1 =>
    (WalksT.zip2 (A := A.in1) hA z TI TO i1 i2 l1 l2 ap xs ys).self 0 s Q1 E1 ⟨zn.zip, zn.its, ⟨_, _, zn.own⟩, zn.at1, zn.at2, zn.li1, zn.li2⟩ h1
  have hint : ∀ {A1 : Around} {E1 : Value → Shared → Prop} {Q1 : Bool → Shared → Prop}, Q1 true s → wpAny (model prog w) A1 (Builtin.List.listLengthHint (.ref z)) Q1 E1 s := by
    intro A1 E1 Q1 h1
    unfold Builtin.List.listLengthHint
    repeat (first | (refine wpAny_of_eq zip_nolen ?_) | (refine wpAny_of_eq zip_nohint ?_) | wp_step)
    exact h1
  unfold Builtin.List.listExtendWith
  have sr : (Builtin.List.listSameRef (.ref S) (.ref z) || Value.type "zip" == Value.type "list" || Value.type "zip" == Value.type "tuple") = false := by
    have : Builtin.List.listSameRef (.ref S) (.ref z) = false := by
      unfold Builtin.List.listSameRef
      first | exact beq_false_of_ne nSz | simpa using nSz | simp [nSz]
    rw [this]
    rfl
  refine wpAny_bind (wpAny_typeOf_ref hz ?_)
  rw [sr]
  rw [if_neg (by decide)]
  refine wpAny_bind (iter ?_)
  refine wpAny_bind (wpAny_holding (hint ?_))
  dsimp only
  rw [Bool.true_or, if_pos rfl]
  repeat wp_step
  have s1 := Heap.SameBut.update s.heap S (Obj.mapSeq fun x => x.push Value.none)
  have g1 := Heap.get?_update_self (Obj.mapSeq fun x => x.push Value.none) hS rfl
  have s2 := Heap.SameBut.update (s.heap.update S (Obj.mapSeq fun x => x.push Value.none)) S (Obj.mapSeq fun x => x.pop)
  have g2 := Heap.get?_update_self (Obj.mapSeq fun x => x.pop) g1 rfl
  exact ⟨quietL, q _ _ g2 ⟨s2.1.trans s1.1, fun b hb => (s2.2 b hb).trans (s1.2 b hb)⟩⟩
theorem rawInt_is (n : Nat) : ∃ t, rawInt (n : Int) = .int (n : Int) t := ⟨_, rfl⟩
/-- the walk from the first pair on -/
theorem zip_walk {R : Result → Shared → Prop} {s : Shared} {S : Addr} {c0 : Nat} (hA : A.handled = none) (ap : ZipApart z TI TO i1 i2 l1 l2) (hl : xs.size = ys.size) (n0 : 0 < xs.size) (hs : xs.size ≤ sizeLine) (res : Value)
    (zn : ZNew s.heap z TI TO i1 i2 l1 l2 xs ys) (ne : S ≠ z ∧ S ≠ TI ∧ S ≠ i1 ∧ S ≠ i2 ∧ S ≠ l1 ∧ S ≠ l2 ∧ S ≠ TO)
    (hS : s.heap.get? S = some { cls := .type "list", data := .seq #[] c0 })
    (fin : ∀ (s' : Shared) (acc : Array Value) (c : Nat) (as : List Addr), s'.gens = s.gens ∧ s'.drawn = s.drawn ∧ s'.os = s.os → (∀ b o, b ≠ z → b ≠ TO → b ≠ i1 → b ≠ i2 → b ≠ S → s.heap.get? b = some o → s'.heap.get? b = some o) → s'.heap.get? S = some { cls := .type "list", data := .seq acc c } →
      acc.toList = as.map Value.ref → as.length = xs.size → ZOut s'.heap s.heap.objs.size xs ys as → R (.ok (.ret res)) s') :
    codeAny (model prog w) A (.builtin "list.extend.loop" { pos := [.ref S, .ref z, res] }) R s := by
  have lt2 : 0 < ys.size := by omega
  have hx : xs[0]? = some xs[0] := Array.getElem?_eq_getElem n0
  have hy : ys[0]? = some ys[0] := Array.getElem?_eq_getElem lt2
  have bz := Heap.lt_size zn.zip
  have bS := Heap.lt_size hS
  have b1 : i1 < s.heap.objs.size := by
    obtain ⟨o, e, _⟩ := zn.at1
    exact Heap.lt_size e
  have b2 : i2 < s.heap.objs.size := by
    obtain ⟨o, e, _⟩ := zn.at2
    exact Heap.lt_size e
  refine codeAny_builtin F.entry_extend_loop ?_
  unfold Builtin.«list.extend.loop»
  dsimp only
  refine wpAny_bind (wpAny_pyNext_zip_item ap zn.zip zn.its zn.own zn.at1 zn.at2 zn.li1 zn.li2 hx hy (fun h' z' to' j1 j2 tp sz kp => ?_))
  dsimp only
  have hS' := kp S _ ne.1 ne.2.2.2.2.2.2 ne.2.2.1 ne.2.2.2.1 hS
  refine wpAny_bind (wpAny_updateSeq (f := fun v => v.push (.ref s.heap.objs.size)) hS' rfl ?_ (by decide) (by show 1 ≤ sizeLine + 1; omega))
  have sb := Heap.SameBut.update h' S (Obj.mapSeq fun v => v.push (.ref s.heap.objs.size))
  have hS2 := Heap.get?_update_self (Obj.mapSeq fun v => v.push (.ref s.heap.objs.size)) hS' rfl
  generalize h'.update S (Obj.mapSeq fun v => v.push (.ref s.heap.objs.size)) = h2 at sb hS2
  have nS : s.heap.objs.size ≠ S := far bS (Nat.le_refl _)
  have kp2 : ∀ b o, b ≠ z → b ≠ TO → b ≠ i1 → b ≠ i2 → b ≠ S → s.heap.get? b = some o → h2.get? b = some o := fun b o b1 b2 b3 b4 b5 h => by
    rw [sb.2 b b5]
    exact kp b o b1 b2 b3 b4 h
  have lst : ∀ {l : Addr} {vs : Array Value}, l ≠ z → l ≠ TO → l ≠ i1 → l ≠ i2 → S ≠ l → s.heap.IsList l vs → h2.IsList l vs := fun n1 n2 n3 n4 n5 q => by
    obtain ⟨o, e, r⟩ := q
    exact ⟨o, kp2 _ _ n1 n2 n3 n4 n5.symm e, r⟩
  have tp2 : h2.get? s.heap.objs.size = some { cls := .type "tuple", data := .seq #[xs[0], ys[0]] } := by
    rw [sb.2 _ nS]
    exact tp
  obtain ⟨t, et⟩ := rawInt_is s.heap.objs.size
  refine wpAny_pure ⟨quietL, zip_loop (T0 := s.heap.objs.size) hA ap hl hs ⟨ne.1, ne.2.1, ne.2.2.1, ne.2.2.2.1, ne.2.2.2.2.1, ne.2.2.2.2.2.1, nS.symm, ne.2.2.2.2.2.2⟩ ⟨far bz (Nat.le_refl _), far b1 (Nat.le_refl _), far b2 (Nat.le_refl _)⟩ res (lo := s.heap.objs.size) ⟨bz, b1, b2, bS⟩ h2 s
    (fun s' acc c as he old hS3 ha hn zo => fin s' acc c as he (fun b o n1 n2 n3 n4 n5 h => old b o n1 n3 n4 n5 (kp2 b o n1 n2 n3 n4 n5 h)) hS3 ha hn zo)
    (xs.size - 1) 1 _ _ _ [s.heap.objs.size] ⟨rfl, rfl, rfl⟩ rfl n0 (by show s.heap.objs.size ≤ h2.objs.size; rw [sb.1, sz]; omega)
    ⟨⟨t, false, ?_⟩, ⟨_, tp2⟩, kp2 _ _ ap.TIz ap.TITO ap.TIi1 ap.TIi2 ne.2.1.symm zn.its, iter_but sb ne.2.2.1.symm j1, iter_but sb ne.2.2.2.1.symm j2, lst ap.l1z ap.l1TO ap.l1i1 ap.l1i2 ne.2.2.2.2.1 zn.li1, lst ap.l2z ap.l2TO ap.l2i1 ap.l2i2 ne.2.2.2.2.2.1 zn.li2⟩
    (fun b o _ _ _ _ h => h) hS2 rfl rfl ⟨List.pairwise_singleton _ _, fun a ha => by rw [List.mem_singleton.mp ha]; exact Nat.le_refl _, fun j a e => ?_⟩⟩
  · show h2.get? z = _
    rw [sb.2 z ne.1.symm, ← et]
    exact z'
  · cases j with
    | zero =>
      injection e with e
      subst e
      exact ⟨_, _, hx, hy, tp2⟩
    | succ j => cases e
end
end Rs
open PySem PySem.Spec PyProof.Rows L2
namespace Rs
section
variable {prog : Program} {w : World} {A : Around} {E : Value → Shared → Prop} {z TI TO i1 i2 l1 l2 T0 : Addr} {k : Nat} {xs ys : Array Value} {x y a b : Value} {o : Obj} {t : Tok} 
theorem ZNew.kept {h h' : Heap} (q : ZNew h z TI TO i1 i2 l1 l2 xs ys) (k : ∀ b o, h.get? b = some o → h'.get? b = some o) : ZNew h' z TI TO i1 i2 l1 l2 xs ys where
  zip := k _ _ q.zip
  its := k _ _ q.its
  own := k _ _ q.own
  at1 := by
    obtain ⟨o, e, r⟩ := q.at1
    exact ⟨o, k _ _ e, r⟩
  at2 := by
    obtain ⟨o, e, r⟩ := q.at2
    exact ⟨o, k _ _ e, r⟩
  li1 := by
    obtain ⟨o, e, r⟩ := q.li1
    exact ⟨o, k _ _ e, r⟩
  li2 := by
    obtain ⟨o, e, r⟩ := q.li2
    exact ⟨o, k _ _ e, r⟩
theorem init_zip {R : Result → Shared → Prop} {s : Shared} {S : Addr} {c0 : Nat} (hA : A.handled = none) (ap : ZipApart z TI TO i1 i2 l1 l2) (hl : xs.size = ys.size) (n0 : 0 < xs.size) (hs : xs.size ≤ sizeLine)
    (zn : ZNew s.heap z TI TO i1 i2 l1 l2 xs ys) (ne : S ≠ z ∧ S ≠ TI ∧ S ≠ i1 ∧ S ≠ i2 ∧ S ≠ l1 ∧ S ≠ l2 ∧ S ≠ TO)
    (hS : s.heap.get? S = some { cls := .type "list", data := .seq #[] c0 })
    (fin : ∀ (s' : Shared) (acc : Array Value) (c : Nat) (as : List Addr), s'.gens = s.gens ∧ s'.drawn = s.drawn ∧ s'.os = s.os → (∀ b o, b ≠ z → b ≠ TO → b ≠ i1 → b ≠ i2 → b ≠ S → s.heap.get? b = some o → s'.heap.get? b = some o) → s'.heap.get? S = some { cls := .type "list", data := .seq acc c } →
      acc.toList = as.map Value.ref → as.length = xs.size → ZOut s'.heap s.heap.objs.size xs ys as → R (.ok (.ret .none)) s') :
    codeAny (model prog w) A (.call (.builtin "list.__init__") { pos := [.ref S, .ref z] }) R s := by
  refine codeAny_call_builtin F.called_list.init.plain F.entry_list_init (F.called_list.init.check _ _ _ s (.ref S) [.ref z] [] _ ⟨_, hS, rfl⟩ rfl ?_)
  unfold Builtin.«list.__init__»
  dsimp only
  have hU := Heap.get?_update_self (Obj.mapSeq fun _ => #[]) hS rfl
  have sU := Heap.SameBut.update s.heap S (Obj.mapSeq fun _ => #[])
  have step : wpAny (model prog w) A.in1 (Builtin.List.listExtendWith (.ref S) (.ref z) .none)
      (fun fin s' => match fin with | .done f => R (.ok f) s' | .again c' => c'.quiet = true ∧ codeAny (model prog w) A c' R s') (fun e s' => R (.error e) s') { s with heap := s.heap.update S (Obj.mapSeq fun _ => #[]) } := by
    have kp : ∀ b o, b ≠ S → s.heap.get? b = some o → (s.heap.update S (Obj.mapSeq fun _ => #[])).get? b = some o := fun b o nb h => by
      rw [sU.2 b nb]
      exact h
    have znU : ZNew (s.heap.update S (Obj.mapSeq fun _ => #[])) z TI TO i1 i2 l1 l2 xs ys := by
      refine ⟨kp _ _ ne.1.symm zn.zip, kp _ _ ne.2.1.symm zn.its, kp _ _ ne.2.2.2.2.2.2.symm zn.own, iter_but sU ne.2.2.1.symm zn.at1, iter_but sU ne.2.2.2.1.symm zn.at2, list_but sU ne.2.2.2.2.1.symm zn.li1, list_but sU ne.2.2.2.2.2.1.symm zn.li2⟩
    refine ext_zip (xs := xs) (ys := ys) hA ap znU ne.1 hU (fun h' c hS' sb => ?_)
    have kp2 : ∀ b o, b ≠ S → s.heap.get? b = some o → h'.get? b = some o := fun b o nb h => by
      rw [sb.2 b nb]
      exact kp b o nb h
    have zn2 : ZNew h' z TI TO i1 i2 l1 l2 xs ys := by
      refine ⟨kp2 _ _ ne.1.symm zn.zip, kp2 _ _ ne.2.1.symm zn.its, kp2 _ _ ne.2.2.2.2.2.2.symm zn.own, iter_but sb ne.2.2.1.symm znU.at1, iter_but sb ne.2.2.2.1.symm znU.at2, list_but sb ne.2.2.2.2.1.symm znU.li1, list_but sb ne.2.2.2.2.2.1.symm znU.li2⟩
    have sz : h'.objs.size = s.heap.objs.size := sb.1.trans sU.1
    refine zip_walk hA ap hl n0 hs .none zn2 ne hS' (fun s' acc c as he old h3 ha hn zo => fin s' acc c as he (fun b o b1 b2 b3 b4 b5 h => old b o b1 b2 b3 b4 b5 (kp2 b o b5 h)) h3 ha hn ?_)
    rw [← sz]
    exact zo
  repeat (first
    | (refine step)
    | wp_step)
/-- list(z), z a new zip of two lists of one length -/
theorem call_list_zip {s : Shared} {Q : Value → Shared → Prop} (hA : A.handled = none) (ap : ZipApart z TI TO i1 i2 l1 l2) (hl : xs.size = ys.size) (n0 : 0 < xs.size) (hs : xs.size ≤ sizeLine)
    (zn : ZNew s.heap z TI TO i1 i2 l1 l2 xs ys)
    (fin : ∀ (s' : Shared) (acc : Array Value) (c : Nat) (as : List Addr), s'.gens = s.gens ∧ s'.drawn = s.drawn ∧ s'.os = s.os → (∀ b o, b ≠ z → b ≠ TO → b ≠ i1 → b ≠ i2 → s.heap.get? b = some o → s'.heap.get? b = some o) → s'.heap.get? s.heap.objs.size = some { cls := .type "list", data := .seq acc c } →
      acc.toList = as.map Value.ref → as.length = xs.size → ZOut s'.heap (s.heap.objs.size + 1) xs ys as → Q (.ref s.heap.objs.size) s') :
    wpAny (model prog w) A (call (.type "list") [.ref z]) Q E s := by
  have lt : ∀ b o, s.heap.get? b = some o → b ≠ s.heap.objs.size := fun b o e => (far (Heap.lt_size e) (Nat.le_refl _)).symm
  have ne : s.heap.objs.size ≠ z ∧ s.heap.objs.size ≠ TI ∧ s.heap.objs.size ≠ i1 ∧ s.heap.objs.size ≠ i2 ∧ s.heap.objs.size ≠ l1 ∧ s.heap.objs.size ≠ l2 ∧ s.heap.objs.size ≠ TO := by
    obtain ⟨_, a1, _⟩ := zn.at1
    obtain ⟨_, a2, _⟩ := zn.at2
    obtain ⟨_, a3, _⟩ := zn.li1
    obtain ⟨_, a4, _⟩ := zn.li2
    exact ⟨(lt _ _ zn.zip).symm, (lt _ _ zn.its).symm, (lt _ _ a1).symm, (lt _ _ a2).symm, (lt _ _ a3).symm, (lt _ _ a4).symm, (lt _ _ zn.own).symm⟩
  have zn2 : ZNew (s.heap.push { cls := .type "list", data := .seq #[] }) z TI TO i1 i2 l1 l2 xs ys := zn.kept fun b o e => Heap.get?_push_of_some _ e
  refine wpAny_call (codeAny_of_tree ?_)
  have e : (model prog w).den (Code.call (Value.type "list") { pos := [Value.ref z] }) = denote table (Code.call (Value.type "list") { pos := [Value.ref z] }) := rfl
  rw [e]
  unfold denote
  dsimp only
  unfold callAny
  dsimp only
  refine wpAny_pure ⟨Code.quiet_builtin _ (by decide +kernel), codeAny_builtin F.entry_type_call ?_⟩
  unfold Builtin.«type.__call__»
  dsimp only
  repeat (first
    | (refine wpAny_of_eq (F.typeCall_list_1 _) ?_)
    | (refine wpAny_of_eq F.called_list.made ?_)
    | (refine wpAny_call (code_list_new _ ?_))
    | (refine wpAny_isInstance (T := "list") ⟨_, Heap.get?_push_size _ rfl, rfl⟩ F.called_list.sub ?_)
    | (refine wpAny_callSpecial?_slot (T := "list") ⟨_, Heap.get?_push_size _ rfl, rfl⟩ F.called_list.init (wpAny_call (init_zip (A := A.under _) hA ap hl n0 hs zn2 ne (Heap.get?_push_size _ rfl) (fun s' acc c as he old h3 ha hn zo => ?_))))
    | wp_step)
  refine fin s' acc c as he (fun b o b1 b2 b3 b4 h => old b o b1 b2 b3 b4 (lt b o h) (Heap.get?_push_of_some _ h)) h3 ha hn ?_
  have sz : (s.heap.push { cls := .type "list", data := .seq #[] }).objs.size = s.heap.objs.size + 1 := Heap.size_push _ _
  exact sz ▸ zo
end
end Rs
/-! many new objects laid at once -/
open PySem PySem.Spec PyProof.Rows L2
namespace Rs
/-- a heap's first n objects -/
def cutH (h : Heap) (n : Nat) : Heap := { h with objs := h.objs.extract 0 n }
theorem cutH_at {h : Heap} {n : Nat} {b : Nat} (lt : b < n) : (cutH h n).objs[b]? = h.objs[b]? := by
  unfold cutH
  dsimp only
  rw [Array.getElem?_extract]
  split
  · rw [Nat.zero_add]
  · rw [Array.getElem?_eq_none (by omega)]
theorem cutH_get {h : Heap} {n : Nat} {b : Addr} (lt : b < n) : (cutH h n).get? b = h.get? b := by
  unfold Heap.get?
  rw [cutH_at lt]
theorem cutH_size {h : Heap} {n : Nat} (le : n ≤ h.objs.size) : (cutH h n).objs.size = n := by
  unfold cutH
  simp
  omega
theorem cutH_lt {h : Heap} {n : Nat} {b : Addr} {u : Obj} (le : n ≤ h.objs.size) (e : (cutH h n).get? b = some u) : b < n := by
  have := Heap.lt_size e
  rw [cutH_size le] at this
  exact this
theorem lay {X : Cx} {pins : List (Addr × Obj)} {σ : L2.St} {h' : Heap} {g : Array GenState} {dr : Drawn} {tk : Nat} {os : OsState} : ∀ (ts : List (Addr × HO)) (H : Hp) (n : Nat), Inv X pins σ H { heap := cutH h' n, gens := g, drawn := dr, toks := tk, os := os } → n ≤ h'.objs.size →
    (∀ p ∈ ts, n ≤ p.1 ∧ p.1 < h'.objs.size) → ts.Pairwise (fun p q => p.1 < q.1) → (∀ p ∈ ts, ∀ H h, h.get? p.1 = h'.get? p.1 → ObjOk X.prog X.w H h p.1 p.2) →
    Inv X pins σ (ts.foldl (fun H p => upd H p.1 p.2) H) { heap := h', gens := g, drawn := dr, toks := tk, os := os }
  | [], H, n, I, le, _, _, _ => I.kept (t' := tk) fun b u e => by
    have lt := cutH_lt le e
    rw [cutH_get lt] at e
    exact e
  | p :: ts, H, n, I, le, hp, rise, ok => by
    have p0 := hp p (List.mem_cons_self ..)
    have pn : p.1 + 1 ≤ h'.objs.size := p0.2
    have rr := List.pairwise_cons.mp rise
    refine lay ts (upd H p.1 p.2) (p.1 + 1) (I.laid (h' := cutH h' (p.1 + 1)) (t' := tk) (fun b u e => ?_) ?_ (ok p (List.mem_cons_self ..) _ _ (cutH_get (Nat.lt_succ_self _)))) pn (fun q hq => ⟨rr.1 q hq, (hp q (List.mem_cons_of_mem _ hq)).2⟩) rr.2 fun q hq => ok q (List.mem_cons_of_mem _ hq)
    · have lt := cutH_lt le e
      rw [cutH_get lt] at e
      rw [cutH_get (show b < p.1 + 1 from Nat.lt_succ_of_lt (Nat.lt_of_lt_of_le lt p0.1))]
      exact e
    · show (cutH h' n).objs.size ≤ p.1
      rw [cutH_size le]
      exact p0.1
theorem laid_many {X : Cx} {pins : List (Addr × Obj)} {σ : L2.St} {H : Hp} {s : Shared} {h' : Heap} {tk : Nat} {ts : List (Addr × HO)} (I : Inv X pins σ H s) (k : ∀ b u, s.heap.get? b = some u → h'.get? b = some u) (sz : s.heap.objs.size ≤ h'.objs.size)
    (hp : ∀ p ∈ ts, s.heap.objs.size ≤ p.1 ∧ p.1 < h'.objs.size) (rise : ts.Pairwise (fun p q => p.1 < q.1)) (ok : ∀ p ∈ ts, ∀ H h, h.get? p.1 = h'.get? p.1 → ObjOk X.prog X.w H h p.1 p.2) :
    Inv X pins σ (ts.foldl (fun H p => upd H p.1 p.2) H) { heap := h', gens := s.gens, drawn := s.drawn, toks := tk, os := s.os } :=
  lay ts H s.heap.objs.size (I.kept (h' := cutH h' s.heap.objs.size) (t' := tk) fun b u e => by
    rw [cutH_get (Heap.lt_size e)]
    exact k b u e) sz hp rise ok
theorem laid_at {ts : List (Addr × HO)} : ∀ {H : Hp} {a : Addr}, (∀ p ∈ ts, p.1 ≠ a) → ts.foldl (fun H p => upd H p.1 p.2) H a = H a := by
  induction ts with
  | nil => exact fun _ => rfl
  | cons p ts ih =>
    intro H a h
    rw [List.foldl_cons, ih fun q hq => h q (List.mem_cons_of_mem _ hq)]
    exact upd_ne (h p (List.mem_cons_self ..)).symm
theorem laid_in {ts : List (Addr × HO)} : ∀ {H : Hp} {p : Addr × HO}, ts.Pairwise (fun p q => p.1 < q.1) → p ∈ ts → ts.foldl (fun H p => upd H p.1 p.2) H p.1 = some p.2 := by
  induction ts with
  | nil => exact fun _ h => nomatch h
  | cons q ts ih =>
    intro H p r h
    have rr := List.pairwise_cons.mp r
    rw [List.foldl_cons]
    rcases List.mem_cons.mp h with rfl | h
    · rw [laid_at fun q hq => Nat.ne_of_gt (rr.1 q hq)]
      exact upd_same
    · exact ih rr.2 h
end Rs
/-! the rule of list(zip(a, b)) -/
open PySem PySem.Spec PyProof.Rows L2
namespace Rs
def tListZip (ta : TA) : TE := fun σ H Q => ta σ H fun vs H1 => ∃ (a b : Addr) (xs ys : List V), vs = [.ref a, .ref b] ∧ H1 a = some (.lst xs) ∧ H1 b = some (.lst ys) ∧ xs.length = ys.length ∧ 0 < xs.length ∧
  ∀ (H' : Hp) (L : Addr) (ts : List Addr), Same H1 H' → H1 L = none → H' L = some (.lst (ts.map V.ref)) → ts.length = xs.length →
    (∀ (j : Nat) (t : Addr), ts[j]? = some t → H1 t = none ∧ ∃ x y, xs[j]? = some x ∧ ys[j]? = some y ∧ H' t = some (.tup [x, y])) → Q (.ref L) H'
theorem zip_pair {α β : Type} {as : List α} {bs : List β} {p : α × β} (h : p ∈ as.zip bs) : ∃ j : Nat, as[j]? = some p.1 ∧ bs[j]? = some p.2 := by
  obtain ⟨j, hj⟩ := List.getElem?_of_mem h
  rw [List.getElem?_zip_eq_some] at hj
  exact ⟨j, hj.1, hj.2⟩
theorem vals_refs : ∀ as : List Addr, Vals (as.map V.ref) (as.map Value.ref)
  | [] => .nil
  | _ :: as => .cons rfl (vals_refs as)
theorem lay_zip {X : Cx} {pins : List (Addr × Obj)} {σ : L2.St} {H : Hp} {s s' : Shared} {L : Addr} {acc : Array Value} {c : Nat} {as : List Addr} {xs ys : List V} {us vs : List Value} (I : Inv X pins σ H s) (he : s'.gens = s.gens ∧ s'.drawn = s.drawn ∧ s'.os = s.os)
    (k : ∀ b u, s.heap.get? b = some u → s'.heap.get? b = some u) (hL : s.heap.objs.size ≤ L) (gL : s'.heap.get? L = some { cls := .type "list", data := .seq acc c }) (ea : acc.toList = as.map Value.ref) (el : as.length = us.length)
    (zo : ZOut s'.heap (L + 1) us.toArray vs.toArray as) (rx : Vals xs us) (ry : Vals ys vs) (l1 : us.length ≤ sizeLine) (l2 : us.length = vs.length) :
    ∃ H', Inv X pins σ H' s' ∧ Same H H' ∧ H L = none ∧ H' L = some (.lst (as.map V.ref)) ∧ ∀ (j : Nat) (t : Addr), as[j]? = some t → H t = none ∧ ∃ x y, xs[j]? = some x ∧ ys[j]? = some y ∧ H' t = some (.tup [x, y]) := by
  have lx := rx.length
  have ly := ry.length
  have szL := Heap.lt_size gL
  have sa : ∀ a ∈ as, L < a := fun a ha => zo.above a ha
  have sb : ∀ a ∈ as, a < s'.heap.objs.size := fun a ha => by
    obtain ⟨j, hj⟩ := List.getElem?_of_mem ha
    obtain ⟨_, _, _, _, e⟩ := zo.pairs j a hj
    exact Heap.lt_size e
  have fresh : ∀ b, s.heap.objs.size ≤ b → H b = none := fun b hb => I.hok.fresh hb
  have pl : (List.zipWith (fun x y => HO.tup [x, y]) xs ys).length = as.length := by
    rw [List.length_zipWith]
    omega
  have mf : (as.zip (List.zipWith (fun x y => HO.tup [x, y]) xs ys)).map Prod.fst = as := List.map_fst_zip (by omega)
  have rise : ((L, HO.lst (as.map V.ref)) :: as.zip (List.zipWith (fun x y => HO.tup [x, y]) xs ys)).Pairwise (fun p q => p.1 < q.1) := by
    refine List.pairwise_cons.mpr ⟨fun q hq => sa _ ?_, ?_⟩
    · rw [← mf]
      exact List.mem_map_of_mem hq
    · have := zo.rise
      rw [← mf, List.pairwise_map] at this
      exact this
  have J := laid_many (h' := s'.heap) (tk := s'.toks) (ts := (L, HO.lst (as.map V.ref)) :: as.zip (List.zipWith (fun x y => HO.tup [x, y]) xs ys)) I k (Nat.le_of_lt (Nat.lt_of_le_of_lt hL szL)) (fun p hp => ?_) rise (fun p hp H h e => ?_)
  · refine ⟨List.foldl (fun (H : Hp) (p : Addr × HO) => upd H p.1 p.2) H ((L, HO.lst (as.map V.ref)) :: as.zip (List.zipWith (fun x y => HO.tup [x, y]) xs ys)), ?_, ?_, fresh L hL, laid_in rise (List.mem_cons_self ..), fun j t ht => ?_⟩
    · obtain ⟨e1, e2, e3⟩ := he
      rw [← e1, ← e2, ← e3] at J
      exact J
    · intro b o hb
      rw [laid_at]
      · exact hb
      · intro p hp c
        have : H b = none := fresh b ?_
        · rw [this] at hb; cases hb
        · subst c
          rcases List.mem_cons.mp hp with rfl | hp
          · exact hL
          · obtain ⟨j, hj, _⟩ := zip_pair hp
            exact Nat.le_of_lt (Nat.lt_of_le_of_lt hL (sa _ (List.mem_of_getElem? hj)))
    · have lt : j < as.length := (List.getElem?_eq_some_iff.mp ht).1
      have ex : xs[j]? = some xs[j] := List.getElem?_eq_getElem (by omega)
      have ey : ys[j]? = some ys[j] := List.getElem?_eq_getElem (by omega)
      refine ⟨fresh t (Nat.le_of_lt (Nat.lt_of_le_of_lt hL (sa _ (List.mem_of_getElem? ht)))), _, _, ex, ey, ?_⟩
      refine laid_in (p := (t, HO.tup [xs[j], ys[j]])) rise (List.mem_cons_of_mem _ (List.mem_of_getElem? (i := j) ?_))
      rw [List.getElem?_zip_eq_some]
      refine ⟨ht, ?_⟩
      rw [List.getElem?_zipWith, ex, ey]
  · rcases List.mem_cons.mp hp with rfl | hp
    · exact ⟨hL, szL⟩
    · obtain ⟨j, hj, _⟩ := zip_pair hp
      have := List.mem_of_getElem? hj
      exact ⟨Nat.le_of_lt (Nat.lt_of_le_of_lt hL (sa _ this)), sb _ this⟩
  · rcases List.mem_cons.mp hp with rfl | hp
    · refine ⟨by rw [List.length_map]; omega, as.map Value.ref, c, vals_refs as, ?_⟩
      rw [e]
      show s'.heap.get? L = _
      rw [gL, ← ea]
    · obtain ⟨j, hj, h2⟩ := zip_pair hp
      obtain ⟨u, v, eu, ev, et⟩ := zo.pairs j p.1 hj
      have lt : j < as.length := (List.getElem?_eq_some_iff.mp hj).1
      have ex : xs[j]? = some xs[j] := List.getElem?_eq_getElem (by omega)
      have ey : ys[j]? = some ys[j] := List.getElem?_eq_getElem (by omega)
      rw [List.getElem?_zipWith, ex, ey] at h2
      injection h2 with h2
      rw [← h2]
      obtain ⟨u', hu, ru⟩ := rx.get ex
      obtain ⟨v', hv, rv⟩ := ry.get ey
      rw [List.getElem?_toArray] at eu ev
      rw [hu] at eu
      rw [hv] at ev
      injection eu with eu
      injection ev with ev
      subst eu
      subst ev
      exact ⟨by show 2 ≤ sizeLine; decide, [u', v'], .cons ru (.cons rv .nil), ⟨_, e.trans et, rfl, _, rfl⟩⟩
theorem apart {n a b : Nat} (ha : a < n) (hb : b < n) : ZipApart (n + 4) (n + 2) (n + 3) n (n + 1) a b := by
  constructor <;> (intro e; have e' : (_ : Nat) = _ := e; omega)
theorem ne4 {n b : Nat} (h : b < n) : b ≠ n + 4 ∧ b ≠ n + 3 ∧ b ≠ n ∧ b ≠ n + 1 := by omega
theorem pe_listZip {X : Cx} {e e2 : Expr} {ta : TA} {p p2 zpos pos : Pos} (hc : X.calm = true) (hg : Gl X "list") (hm : X.mg "list" = none) (hz : Gl X "zip") (hmz : X.mg "zip" = none) (ha : PA X [e, e2] ta)
    (hs : starEach [e, e2] X.env = (false, eval e X.env) :: starEach [e2] X.env := by rfl) (hs2 : ((backTo zpos (starEach [e2] X.env)).any fun x => x.1) = false := by rfl)
    (hs3 : starEach [.Call (.Name "zip" p2) [e, e2] [] zpos] X.env = (false, eval (.Call (.Name "zip" p2) [e, e2] [] zpos) X.env) :: starEach [] X.env := by rfl) :
    PE X (.Call (.Name "list" p) [.Call (.Name "zip" p2) [e, e2] [] zpos] [] pos) (tListZip ta) := by
  refine ⟨fun pins s σ H Q I hyp => Call_ (ld_blt I hg hm boot_list (callWith_type1 (spliced_more (Call_ (ld_blt I hz hmz boot_zip (callWith_type1 (thn (ha.run zpos pins s σ H _ I hyp) fun us s1 res => ?_) hs hs2))) hs3) hs3 rfl))⟩
  obtain ⟨vs, H1, I1, r1, a, b, xs, ys, rfl, hA, hB, hl, n0, q⟩ := res
  cases r1 with
  | cons r rr =>
    cases rr with
    | cons r2 rr =>
      cases rr
      cases r
      cases r2
      obtain ⟨us, ru, pa, la⟩ := I1.list (SqL.of hA)
      obtain ⟨vs, rv, pb, lb⟩ := I1.list (SqL.of hB)
      have lu := ru.length
      have lv := rv.length
      refine call_zip_2 pa.isList pb.isList (fun h' z ti to j1 j2 sz kp => ?_)
      have la' : a < s1.heap.objs.size := by
        obtain ⟨o, e, _⟩ := pa.isList
        exact Heap.lt_size e
      have lb' : b < s1.heap.objs.size := by
        obtain ⟨o, e, _⟩ := pb.isList
        exact Heap.lt_size e
      have kl : ∀ {l : Addr} {ws : Array Value}, s1.heap.IsList l ws → h'.IsList l ws := fun q => by
        obtain ⟨o, e, r⟩ := q
        exact ⟨o, kp _ _ e, r⟩
      have es : us.toArray.size = vs.toArray.size := by
        show us.length = vs.length
        omega
      refine spliced_none (call_list_zip (xs := us.toArray) (ys := vs.toArray) (I1.ok.hd hc) (apart la' lb') es (show 0 < us.length by omega) (show us.length ≤ sizeLine by omega) ⟨z, ti, to, j1, j2, kl pa.isList, kl pb.isList⟩ (fun s' acc c as he old hL hacc hn zo => ?_))
      have sz' : h'.objs.size = s1.heap.objs.size + 5 := sz
      obtain ⟨H', J, sm, nL, hH, pr⟩ := lay_zip (L := h'.objs.size) (us := us) (vs := vs) I1 he (fun b' u e' => by
        have lt := Heap.lt_size e'
        exact old b' u (ne4 lt).1 (ne4 lt).2.1 (ne4 lt).2.2.1 (ne4 lt).2.2.2 (kp b' u e')) (by rw [sz']; omega) hL hacc hn zo ru rv (show us.length ≤ sizeLine by omega) (show us.length = vs.length by omega)
      exact ⟨.ref h'.objs.size, H', J, rfl, q H' h'.objs.size as sm nL hH (hn.trans (show us.length = xs.length by omega)) pr⟩
end Rs
/-! math.lcm; v in a tuple of data. -/
namespace Rs
open PySem PySem.Spec PyProof.Rows L2
section
variable {X : Cx}
def rLcm : List V → Hp → VK → Prop := fun vs H Q => ∃ a b : Int, vs = [.int a, .int b] ∧ a.natAbs < 2 ^ 64 ∧ b.natAbs < 2 ^ 64 ∧ Q (.int ((Nat.lcm a.natAbs b.natAbs : Nat) : Int)) H
theorem cr_lcm : CallR X (.builtin "math.lcm") rLcm := by
  intro pins s σ H vs us Q I r h
  obtain ⟨a, b, rfl, ha, hb, q⟩ := h
  obtain ⟨t, u, rfl⟩ := Vals.int2 r
  exact PySem.W.mc_lcm ha hb fun _ => ⟨.int _, H, I.tok _, ⟨_, rfl⟩, q⟩
def rInTD (K : PySem.W.Frag) (neg : Bool) : R2 := fun x y H Q => ∃ d ds, Dp K H x d ∧ Dp K H y (.tuple ds) ∧ SeqAt.shaped d = true ∧ SeqAt.shaped (.tuple ds) = true ∧ Q (.bl (if neg then !(ds.any fun z => PyData.eqv z d) else ds.any fun z => PyData.eqv z d)) H
theorem op_inTD {K : PySem.W.Frag} (e : X.K = K) (hu : X.A.units + 65 < cLine) : OpR X (compareOp .In) (rInTD K false) := by
  subst e
  intro pins s σ H x y v u Q I rx ry h
  obtain ⟨d, ds, hd, he, sd, se, q⟩ := h
  obtain ⟨as, r1⟩ := Dp.reads I d x v hd rx
  obtain ⟨bs, r2⟩ := Dp.reads I (.tuple ds) y u he ry
  exact SeqAt.in_tuple_reads r2 r1 (SeqAt.canLay_of_shaped se) (SeqAt.canLay_of_shaped sd) (PyProof.Rows.room_in_shaped sd hu) ⟨.bl _, H, I, rfl, q⟩
end
/-- [e for x in l] over a list of any things, with a reading of e by its place -/
theorem lmapI {K : PySem.W.Frag} {L : Addr} {xs : List V} {te el : TE} {sl : Nat} {σ : L2.St} {H : Hp} {Q : VK} (f : Nat → V) (hte : ∀ R : VK, R (.ref L) H → te σ H R) (hL : H L = some (.lst xs)) (ln : xs.length ≤ 3000)
    (hel : ∀ (j : Nat) (x : V), xs[j]? = some x → ∀ (Hc : Hp) (R : VK), Same H Hc → (∀ Hd, Same Hc Hd → R (f j) Hd) → el ((wipe σ [sl]).set sl (some x)) Hc R)
    (k : ∀ D H', H D = none → Same H H' → H' D = some (.lst ((List.range xs.length).map f)) → Q (.ref D) H') : tLc (iList K te) (gName sl) tYes el [sl] σ H Q := by
  refine hte _ ⟨L, rfl, ⟨_, SqL.of hL⟩, fun D hD => lc_it walk_list (fun i Hc => Hc D = some (.lst ((List.range i).map f)) ∧ Same H Hc) ⟨upd_same, same_new hD⟩ (fun i Hc _ hR => hR.2.seq (SqL.of hL)) (fun j x Hc H' hj hR hy => ?_) (fun Hc hR => k D Hc hD hR.2 hR.1)⟩
  obtain ⟨rfl, hx⟩ := hy
  obtain ⟨hDc, sc⟩ := hR
  refine ⟨by simp [wipe, List.set_set], ?_⟩
  dsimp only [tYes]
  rw [if_pos rfl]
  have lt : j < xs.length := (List.getElem?_eq_some_iff.mp hx).1
  refine hel j x hx _ _ sc fun Hd sd => ?_
  refine ⟨_, sd _ _ hDc, ?_, ?_, same_lst (sc.trans sd) hD⟩
  · rw [List.length_map, List.length_range]
    exact szL2 (by omega)
  · rw [upd_same, List.range_succ, List.map_append]
    rfl
theorem val_go {te : TE} {v : V} {σ : L2.St} {H : Hp} {Q : VK} (h : ∀ R : VK, R v H → te σ H R) (k : Q v H) : te σ H Q := h Q k
end Rs
/-! str(o) by an own __str__; texts of ints separated by blanks, and what such a text tells. -/
namespace Rs
open PySem PySem.Spec PyProof.Rows L2
section
variable {X : Cx} {CX : CXT} {C g : Addr} {n : Nat} {sp : Sp} {E : XK}
def rStrO (C : Addr) (sp : Sp) (E : XK) : List V → Hp → VK → Prop := fun xs H Q => ∃ a dx fs, xs = [.ref a] ∧ H a = some (.ins C dx fs) ∧ sp [.ref a] H (fun z H' => ∃ y, z = .str y ∧ Q (.str y) H') E
theorem call_strO (M : Meth X.K C "__str__" g) (F : FnR X.prog X.w X.K X.mg X.base CX n g sp) (hr : Room (n + 2) X.A) (hx : Passes CX X E) : CallR X (.type "str") (rStrO C sp E) := by
  intro pins s σ H xs us Q I r h
  obtain ⟨a, dx, fs, rfl, ha, q⟩ := h
  cases r with
  | cons r1 rr =>
    cases rr
    cases (show _ = Value.ref a from r1)
    obtain ⟨ox, od, J⟩ := ins_at I ha
    have hr1 : Room (n + 1) X.A.in1 := Room.in1 hr
    have hr2 : Room n X.A.in1.in1 := Room.in1 hr1
    refine PySem.W.kso_call (by have := hr2.un; omega) I.kIn J M.at_ M.fn ?_
    refine wpAny_mono (wpAny_call (SlX.run_at (us := [.ref a]) (ws := [.ref a]) F hr2 I.env0.in1.in1 hx I (.cons rfl .nil) q)) (fun w s' z => ?_) fun _ _ x => x
    obtain ⟨z', H', I', rz, y, ez, qz⟩ := z
    subst ez
    obtain ⟨t, rfl⟩ := rz
    exact ⟨.str y, H', I', ⟨t, rfl⟩, qz⟩
end
/-! ### texts -/
def nS (n : Int) : Str := Str.ofString (toString n)
def blank : Str := Str.ofString " "
def spaced (ns : List Int) : Str := Txt.join blank (ns.map nS)
theorem nS_free (n : Int) : 32 ∉ TL.tl (nS n) := fun h => (intText_free_32 n).mp h
theorem nS_len {n : Int} (h0 : 0 ≤ n) (h1 : n < 10 ^ 9) : (nS n).length ≤ 10 := by
  have e := PySem.int_text_length_le10 (a := n) (k := 9) (by decide) (by omega)
  unfold nS
  rw [PySem.ofString_length]
  omega
theorem nS_num {n : Int} (h0 : 0 ≤ n) (h1 : n < 10 ^ 9) : PySem.intText? (nS n) = some n := PySem.W.KIN.num_reads h0 (by omega)
theorem nS_inj {n m : Int} (h0 : 0 ≤ n) (h1 : n < 10 ^ 9) (g0 : 0 ≤ m) (g1 : m < 10 ^ 9) (e : nS n = nS m) : n = m := by
  have a := nS_num h0 h1
  rw [e, nS_num g0 g1] at a
  injection a with a
  exact a.symm
theorem nS_map_inj : ∀ {ns ms : List Int}, (∀ n ∈ ns, 0 ≤ n ∧ n < 10 ^ 9) → (∀ n ∈ ms, 0 ≤ n ∧ n < 10 ^ 9) → ns.map nS = ms.map nS → ns = ms
  | [], [], _, _, _ => rfl
  | [], _ :: _, _, _, h => by simp at h
  | _ :: _, [], _, _, h => by simp at h
  | n :: ns, m :: ms, hn, hm, h => by
    rw [List.map_cons, List.map_cons] at h
    injection h with h1 h2
    have a := hn n List.mem_cons_self
    have b := hm m List.mem_cons_self
    rw [nS_inj a.1 a.2 b.1 b.2 h1, nS_map_inj (fun x hx => hn x (List.mem_cons_of_mem _ hx)) (fun x hx => hm x (List.mem_cons_of_mem _ hx)) h2]
theorem nS_not {n : Int} {w : Str} (h0 : 0 ≤ n) (h1 : n < 10 ^ 9) (hw : PySem.intText? w = none) : nS n ≠ w := fun e => by
  have a := nS_num h0 h1
  rw [e, hw] at a
  cases a
theorem join_append {y : Str} : ∀ {a b : List Str}, a ≠ [] → b ≠ [] → Str.join y (a ++ b) = Str.join y a ++ (y ++ Str.join y b)
  | [], _, h, _ => absurd rfl h
  | [x], [], _, h => absurd rfl h
  | [x], z :: b, _, _ => by
    show x ++ y ++ Str.join y (z :: b) = x ++ (y ++ Str.join y (z :: b))
    rw [Str.append_assoc]
  | x :: z :: a, b, _, hb => by
    show x ++ y ++ Str.join y (z :: a ++ b) = x ++ y ++ Str.join y (z :: a) ++ (y ++ Str.join y b)
    rw [join_append (by simp) hb, Str.append_assoc (x ++ y)]
def front (few : List Int) : Str := if few = [] then Str.ofString "-" else spaced few
def calText (few : List Int) (e p : Int) (rests : List Int) : Str :=
  if rests = [] then front few else front few ++ (Str.ofString " from " ++ (nS e ++ (Str.ofString " of " ++ (nS p ++ (Str.ofString ": " ++ spaced rests)))))
def frontW (few : List Int) : List Str := if few = [] then [Str.ofString "-"] else few.map nS
def tailW (e p : Int) (rests : List Int) : List Str := if rests = [] then [] else Str.ofString "from" :: nS e :: Str.ofString "of" :: (nS p ++ Str.ofString ":") :: rests.map nS
theorem frontW_ne {few : List Int} : frontW few ≠ [] := by
  unfold frontW
  split
  · simp
  · rename_i h
    simpa using h
theorem front_join {few : List Int} : front few = Str.join blank (frontW few) := by
  unfold front frontW
  split
  · rfl
  · exact TL.join_eq _ _
theorem calText_join {few rests : List Int} {e p : Int} : calText few e p rests = Str.join blank (frontW few ++ tailW e p rests) := by
  unfold calText tailW
  split
  · rw [List.append_nil, front_join]
  · rename_i h
    rw [join_append frontW_ne (by simp), ← front_join]
    congr 1
    have e1 : Str.ofString " from " = blank ++ (Str.ofString "from" ++ blank) := by decide
    have e2 : Str.ofString " of " = blank ++ (Str.ofString "of" ++ blank) := by decide
    have e3 : Str.ofString ": " = Str.ofString ":" ++ blank := by decide
    obtain ⟨r, t, rfl⟩ := List.exists_cons_of_ne_nil h
    rw [e1, e2, e3]
    have e4 : spaced (r :: t) = Str.join blank (nS r :: t.map nS) := TL.join_eq _ _
    rw [e4]
    show _ = blank ++ (Str.ofString "from" ++ blank ++ (nS e ++ blank ++ (Str.ofString "of" ++ blank ++ ((nS p ++ Str.ofString ":") ++ blank ++ Str.join blank (nS r :: t.map nS)))))
    simp only [Str.append_assoc]
theorem words_split {w : Str} : ∀ {F G X Y : List Str}, (∀ a ∈ F, a ≠ w) → (∀ a ∈ G, a ≠ w) → (X = [] ∨ ∃ t, X = w :: t) → (Y = [] ∨ ∃ t, Y = w :: t) → F ++ X = G ++ Y → F = G ∧ X = Y
  | [], [], _, _, _, _, _, _, e => ⟨rfl, e⟩
  | [], g :: G, X, Y, _, hG, hX, _, e => by
    rcases hX with rfl | ⟨t, rfl⟩
    · simp at e
    · simp only [List.nil_append, List.cons_append] at e
      injection e with e1 _
      exact absurd e1.symm (hG g List.mem_cons_self)
  | f :: F, [], X, Y, hF, _, _, hY, e => by
    rcases hY with rfl | ⟨t, rfl⟩
    · simp at e
    · simp only [List.nil_append, List.cons_append] at e
      injection e with e1 _
      exact absurd e1 (hF f List.mem_cons_self)
  | f :: F, g :: G, X, Y, hF, hG, hX, hY, e => by
    simp only [List.cons_append] at e
    injection e with e1 e2
    obtain ⟨a, b⟩ := words_split (fun x hx => hF x (List.mem_cons_of_mem _ hx)) (fun x hx => hG x (List.mem_cons_of_mem _ hx)) hX hY e2
    rw [e1, a]
    exact ⟨rfl, b⟩
def Small (ns : List Int) : Prop := ∀ n ∈ ns, 0 ≤ n ∧ n < 10 ^ 9
theorem front_free {few : List Int} : ∀ a ∈ frontW few, 32 ∉ TL.tl a := by
  unfold frontW
  split
  · intro a ha
    rw [List.mem_singleton] at ha
    subst ha
    decide
  · intro a ha
    obtain ⟨n, _, rfl⟩ := List.mem_map.mp ha
    exact nS_free n
theorem tail_free {e p : Int} {rests : List Int} : ∀ a ∈ tailW e p rests, 32 ∉ TL.tl a := by
  unfold tailW
  split
  · intro a ha
    cases ha
  · intro a ha
    rcases List.mem_cons.mp ha with rfl | ha
    · decide
    rcases List.mem_cons.mp ha with rfl | ha
    · exact nS_free e
    rcases List.mem_cons.mp ha with rfl | ha
    · decide
    rcases List.mem_cons.mp ha with rfl | ha
    · rw [TL.tl_append]
      intro h
      rcases List.mem_append.mp h with h | h
      · exact nS_free p h
      · revert h
        decide
    · obtain ⟨n, _, rfl⟩ := List.mem_map.mp ha
      exact nS_free n
theorem front_not {few : List Int} (h : Small few) : ∀ a ∈ frontW few, a ≠ Str.ofString "from" := by
  unfold frontW
  split
  · intro a ha
    rw [List.mem_singleton] at ha
    subst ha
    decide
  · intro a ha
    obtain ⟨n, hn, rfl⟩ := List.mem_map.mp ha
    exact nS_not (h n hn).1 (h n hn).2 (by decide +kernel)
theorem tail_head {e p : Int} {rests : List Int} : tailW e p rests = [] ∨ ∃ t, tailW e p rests = Str.ofString "from" :: t := by
  unfold tailW
  split
  · exact .inl rfl
  · exact .inr ⟨_, rfl⟩
theorem front_inj {a b : List Int} (ha : Small a) (hb : Small b) (e : frontW a = frontW b) : a = b := by
  unfold frontW at e
  by_cases h1 : a = []
  · by_cases h2 : b = []
    · rw [h1, h2]
    · rw [if_pos h1, if_neg h2] at e
      obtain ⟨n, t, rfl⟩ := List.exists_cons_of_ne_nil h2
      rw [List.map_cons] at e
      injection e with e1 _
      exact absurd e1.symm (nS_not (hb n List.mem_cons_self).1 (hb n List.mem_cons_self).2 (by decide +kernel))
  · by_cases h2 : b = []
    · rw [if_pos h2, if_neg h1] at e
      obtain ⟨n, t, rfl⟩ := List.exists_cons_of_ne_nil h1
      rw [List.map_cons] at e
      injection e with e1 _
      exact absurd e1 (nS_not (ha n List.mem_cons_self).1 (ha n List.mem_cons_self).2 (by decide +kernel))
    · rw [if_neg h1, if_neg h2] at e
      exact nS_map_inj ha hb e
/-- what a calendar's text tells -/
theorem calText_inj {f1 f2 r1 r2 : List Int} {e1 e2 p1 p2 : Int} (hf1 : Small f1) (hf2 : Small f2) (hr1 : Small r1) (hr2 : Small r2) (he1 : 0 ≤ e1 ∧ e1 < 10 ^ 9) (he2 : 0 ≤ e2 ∧ e2 < 10 ^ 9) (hp1 : 0 ≤ p1 ∧ p1 < 10 ^ 9) (hp2 : 0 ≤ p2 ∧ p2 < 10 ^ 9)
    (h : calText f1 e1 p1 r1 = calText f2 e2 p2 r2) : f1 = f2 ∧ r1 = r2 ∧ (r1 ≠ [] → e1 = e2 ∧ p1 = p2) := by
  rw [calText_join, calText_join, ← TL.join_eq, ← TL.join_eq] at h
  have sp : ∀ {f r : List Int} {e p : Int}, Txt.split (Txt.join blank (frontW f ++ tailW e p r)) blank = frontW f ++ tailW e p r := fun {f r e p} =>
    TL.split_join (s := 32) (S := []) (by decide) (by decide +kernel) (fun z => frontW_ne (List.append_eq_nil_iff.mp z).1) fun a ha => by
      rcases List.mem_append.mp ha with ha | ha
      · exact front_free a ha
      · exact tail_free a ha
  have hw : Txt.split _ blank = Txt.split _ blank := congrArg (fun z => Txt.split z blank) h
  rw [sp, sp] at hw
  obtain ⟨a, b⟩ := words_split (front_not hf1) (front_not hf2) tail_head tail_head hw
  refine ⟨front_inj hf1 hf2 a, ?_⟩
  unfold tailW at b
  by_cases h1 : r1 = []
  · by_cases h2 : r2 = []
    · rw [h1, h2]
      exact ⟨rfl, fun z => absurd rfl z⟩
    · rw [if_pos h1, if_neg h2] at b
      cases b
  · by_cases h2 : r2 = []
    · rw [if_neg h1, if_pos h2] at b
      cases b
    · rw [if_neg h1, if_neg h2] at b
      injection b with _ b
      injection b with b1 b
      injection b with _ b
      injection b with b2 b
      have b3 : nS p1 = nS p2 := by
        have := congrArg TL.tl b2
        rw [TL.tl_append, TL.tl_append] at this
        exact TL.ext_tl (List.append_cancel_right this)
      exact ⟨nS_map_inj hr1 hr2 b, fun _ => ⟨nS_inj he1.1 he1.2 he2.1 he2.2 b1, nS_inj hp1.1 hp1.2 hp2.1 hp2.2 b3⟩⟩
theorem sum_len {ns : List Int} (h : Small ns) : ((ns.map nS).map (·.length)).sum ≤ 10 * ns.length := by
  induction ns with
  | nil => simp
  | cons n ns ih =>
    have a := nS_len (h n List.mem_cons_self).1 (h n List.mem_cons_self).2
    have b := ih fun x hx => h x (List.mem_cons_of_mem _ hx)
    simp only [List.map_cons, List.sum_cons, List.length_cons] at b ⊢
    omega
theorem spaced_len {ns : List Int} (h : Small ns) : (spaced ns).length ≤ 11 * ns.length := by
  unfold spaced
  rw [TL.join_eq]
  induction ns with
  | nil => exact Nat.le_refl _
  | cons n ns ih =>
    have a := nS_len (h n List.mem_cons_self).1 (h n List.mem_cons_self).2
    have b := ih fun x hx => h x (List.mem_cons_of_mem _ hx)
    cases ns with
    | nil =>
      show (nS n).length ≤ _
      simp only [List.length_cons, List.length_nil]
      omega
    | cons m ns =>
      show (nS n ++ blank ++ Str.join blank (nS m :: ns.map nS)).length ≤ _
      rw [Str.length_append, Str.length_append]
      have c : blank.length = 1 := by decide
      have d : (Str.join blank (nS m :: ns.map nS)).length ≤ 11 * (m :: ns).length := b
      simp only [List.length_cons] at d ⊢
      omega
/-- a value, with the heap only grown -/
theorem val_same {te : TE} {v : V} {σ : L2.St} {H : Hp} {Q : VK} (h : ∀ R : VK, (∀ H', Same H H' → R v H') → te σ H R) (k : ∀ H', Same H H' → Q v H') : te σ H Q := h Q k
/-- [e for n in t] over a tuple of ints -/
theorem lmapT {K : PySem.W.Frag} {a : Addr} {ns : List Int} {te el : TE} {sl : Nat} {σ : L2.St} {H : Hp} {Q : VK} (f : Int → V) (hte : ∀ R : VK, R (.ref a) H → te σ H R) (hS : SqT K H a (ns.map V.int)) (ln : ns.length ≤ 3000)
    (hel : ∀ n ∈ ns, ∀ (Hc : Hp) (R : VK), Same H Hc → R (f n) Hc → el ((wipe σ [sl]).set sl (some (.int n))) Hc R)
    (k : ∀ D H', H D = none → Same H H' → H' D = some (.lst (ns.map f)) → Q (.ref D) H') : tLc (iTup K te) (gName sl) tYes el [sl] σ H Q := by
  refine hte _ ⟨a, rfl, ⟨_, hS⟩, fun D hD => lc_it walk_tup (fun i Hc => Hc D = some (.lst ((ns.take i).map f)) ∧ Same H Hc) ⟨upd_same, same_new hD⟩ (fun i Hc _ hR => (Fz.of_same hR.2).sqT hS) (fun j x Hc H' hj hR hy => ?_) (fun Hc hR => ?_)⟩
  · obtain ⟨rfl, hx⟩ := hy
    obtain ⟨hDc, sc⟩ := hR
    rw [List.getElem?_map] at hx
    obtain ⟨n, hn, rfl⟩ := Option.map_eq_some_iff.mp hx
    refine ⟨by simp [wipe, List.set_set], ?_⟩
    dsimp only [tYes]
    rw [if_pos rfl]
    refine hel n (List.mem_of_getElem? hn) _ _ sc ⟨_, hDc, ?_, ?_, same_lst sc hD⟩
    · rw [List.length_map, List.length_take]
      exact szL2 (by omega)
    · rw [upd_same, take_snoc hn, List.map_append]
      rfl
  · rw [List.length_map, List.take_length] at hR
    exact k D Hc hD hR.2 hR.1
end Rs
/-! comprehensions within comprehensions -/
namespace Rs
open PySem PySem.Spec PyProof.Rows L2
def relabelS (scope sc : Scope) : Scope :=
  { scope with names := scope.names.map fun (n, k) => if (k == .free && sc.kind == .function && sc.names.lookup n == some .cell) then (n, .cell) else (n, k) }
theorem relabel_eq (scope : Scope) (env : Env) : relabel scope env = relabelS scope env.scope := rfl
theorem pi_tupK {X : Cx} {K : PySem.W.Frag} {tg l : Expr} {tl : TE} (e : X.K = K) (hl : PE X l tl) : PI X tg l (iTup K tl) := by
  subst e
  exact pi_tup hl
theorem pi_listK {X : Cx} {K : PySem.W.Frag} {tg l : Expr} {tl : TE} (e : X.K = K) (hl : PE X l tl) : PI X tg l (iList K tl) := by
  subst e
  exact pi_list hl
/-- [n for n in range(hi) if t], where the test may make new objects -/
theorem lcondH {targ : TA} {tt : TT} {sl : Nat} {σ : L2.St} {H : Hp} {Q : VK} {hi : Int} (f : Int → Bool) (b3 : -1000 ≤ hi) (b4 : hi ≤ 3000) (harg : ∀ R : List V → Hp → Prop, R [.int hi] H → targ σ H R) (hl : sl < σ.length)
    (htt : ∀ n Hc (R : Bool → Hp → Prop), 0 ≤ n → n < hi → Same H Hc → (∀ Hd, Same Hc Hd → R (f n) Hd) → tt ((wipe σ [sl]).set sl (some (.int n))) Hc R)
    (k : ∀ D H', H D = none → Same H H' → H' D = some (.lst ((((List.range hi.toNat).map fun i : Nat => (i : Int)).filter f).map V.int)) → Q (.ref D) H') : tLc (iRng1 targ) (gName sl) tt (tVar sl) [sl] σ H Q := by
  refine harg _ ⟨hi, rfl, by omega, by omega, fun D hD => ?_⟩
  refine lc_range (lo := 0) (fun i Hc => Hc D = some (.lst ((((List.range i).map fun i : Nat => (i : Int)).filter f).map V.int)) ∧ Same H Hc) ⟨upd_same, same_new hD⟩ (fun i Hc hi' hP => ?_) (fun Hc hP => ?_)
  · obtain ⟨hDc, sc⟩ := hP
    rw [Int.zero_add]
    refine ⟨by simp [wipe, List.set_set], htt _ _ _ (by omega) (by omega) sc fun Hd sd => ?_⟩
    have z : ((List.range (i + 1)).map fun i : Nat => (i : Int)).filter f = ((List.range i).map fun i : Nat => (i : Int)).filter f ++ (if f (i : Int) = true then [(i : Int)] else []) := by
      rw [range_succ_map, List.filter_append, List.filter_cons, List.filter_nil]
    refine ifB (fun g => ?_) (fun g => ?_)
    · rw [if_pos g] at z
      refine ⟨.int (i : Nat), by simp [wipe, List.getElem?_set, hl], _, sd _ _ hDc, ?_, ?_, same_lst (sc.trans sd) hD⟩
      · rw [List.length_map]
        have := List.length_filter_le f ((List.range i).map fun i : Nat => (i : Int))
        rw [List.length_map, List.length_range] at this
        exact szL2 (by omega)
      · rw [upd_same, z, List.map_append]
        rfl
    · rw [if_neg (by rw [g]; exact Bool.false_ne_true), List.append_nil] at z
      rw [z]
      exact ⟨sd _ _ hDc, sc.trans sd⟩
  · exact k D Hc hD hP.2 hP.1
/-- [e for x in L if t], t never true -/
theorem lnone {K : PySem.W.Frag} {L : Addr} {xs : List V} {te el : TE} {tt : TT} {sl : Nat} {σ : L2.St} {H : Hp} {Q : VK} (hte : ∀ R : VK, (∀ H1, Same H H1 → H1 L = some (.lst xs) → R (.ref L) H1) → te σ H R)
    (htt : ∀ x ∈ xs, ∀ (Hc : Hp) (R : Bool → Hp → Prop), Same H Hc → (∀ Hd, Same Hc Hd → R false Hd) → tt ((wipe σ [sl]).set sl (some x)) Hc R)
    (k : ∀ D H', H D = none → Same H H' → H' D = some (.lst []) → Q (.ref D) H') : tLc (iList K te) (gName sl) tt el [sl] σ H Q := by
  refine hte _ fun H1 s1 hL => ⟨L, rfl, ⟨_, SqL.of hL⟩, fun D hD => lc_it walk_list (fun i Hc => Hc D = some (.lst []) ∧ Same H1 Hc) ⟨upd_same, same_new hD⟩ (fun i Hc _ hR => hR.2.seq (SqL.of hL)) (fun j x Hc H' hj hR hy => ?_) (fun Hc hR => ?_)⟩
  · obtain ⟨rfl, hx⟩ := hy
    obtain ⟨hDc, sc⟩ := hR
    exact ⟨by simp [wipe, List.set_set], htt x (List.mem_of_getElem? hx) _ _ (s1.trans sc) fun Hd sd => ifF rfl ⟨sd _ _ hDc, sc.trans sd⟩⟩
  · exact k D Hc (s1.free hD) (s1.trans hR.2) hR.1
/-- a statement that goes on in several ways, all of which hold C -/
theorem seq_k {t rest : TS} {D : Ends} {σ : L2.St} {H : Hp} (C : L2.St → Hp → Prop) (k : ∀ σ' H', C σ' H' → rest D σ' H') (h : ∀ R : L2.St → Hp → Prop, (∀ σ' H', C σ' H' → R σ' H') → t { D with nx := R } σ H) : tSeq t rest D σ H := h _ k
end Rs
open PySem PySem.Spec PyProof.Rows L2
/-! set(list of ints) as a value -/
namespace Rs
def newSet (w : World) : Obj := { cls := .type "set", dict := none, data := .set #[] 0 (.fresh 0 0 (!w.params.followText "set-order")) }
section
variable {P : Program} {w : World} {A : Around} {E : Value → Shared → Prop} {l S : Addr} {items : Array Value} {ns : List Int}
theorem init_set {R : Result → Shared → Prop} {s : Shared} (hA : A.handled = none) (hl : s.heap.IsList l items) (hi : IntsAre items.toList ns) (hb : ns.length + 1 < scanBound) (ne : l ≠ S) (hS : s.heap.get? S = some (newSet w))
    (fin : ∀ (s' : Shared) (c : Nat), s'.gens = s.gens ∧ s'.drawn = s.drawn ∧ s'.os = s.os → (∀ b o, b ≠ S → s.heap.get? b = some o → s'.heap.get? b = some o) → c ≤ ns.length → SetR w s'.heap S (fun j => decide (j ∈ ns)) c → R (.ok (.ret .none)) s') :
    codeAny (model P w) A (.call (.builtin "set.__init__") { pos := [.ref S, .ref l] }) R s := by
  have ty : s.TypeIs (.ref S) "set" := ⟨_, hS, rfl⟩
  refine codeAny_call_builtin F.called_set.init.plain F.entry_set_init (check_set_init_1 ty ?_)
  have hl0 := hl
  obtain ⟨⟨oc, od, ot, os⟩, ho, hc, nl, hd⟩ := hl
  simp only at hc hd
  subst hc
  subst hd
  have f1 := F.sub_list_set
  have f2 := F.sub_list_frozenset
  have f3 : (Value.type "list" == Value.type "dict") = false := by decide
  unfold Builtin.«set.__init__» noKeywords Builtin.Frozenset.updateFrom
  generalize hPI : pyIter = PI
  repeat wp_step
  subst hPI
  have lS : S < s.heap.objs.size := Heap.lt_size hS
  have lL : l < s.heap.objs.size := Heap.lt_size ho
  have nI : l ≠ s.heap.objs.size := Nat.ne_of_lt lL
  have nS : S ∉ [s.heap.objs.size, l] := by
    simp only [List.mem_cons, List.not_mem_nil, or_false, not_or]
    exact ⟨Nat.ne_of_lt lS, ne.symm⟩
  have len : items.size = ns.length := by
    have := IntsAre.length hi
    rwa [Array.length_toList] at this
  have val : ∀ (i : Nat) (v : Value), items[i]? = some v → ∃ k t, ns[i]? = some k ∧ v = .int k t := fun i v hv => by
    have lt : i < ns.length := len ▸ (Array.getElem?_eq_some_iff.mp hv).1
    obtain ⟨t, e⟩ := hi.int_at i v (by rw [Array.getElem?_toList]; exact hv)
    refine ⟨ns[i], t, List.getElem?_eq_getElem lt, ?_⟩
    rw [e, List.getD_eq_getElem?_getD, List.getElem?_eq_getElem lt]
    rfl
  refine wpAny_pyIter_list hl0 (wpAny_bind (wpAny_runValue ?_))
  refine set_update_ints ((Walks.list (by simp [hA]) _ l nI items).toS) S nS ns len hb val items.size 0 _ (Nat.sub_zero _) (Nat.zero_le _) ⟨⟨_, Heap.get?_push_size _ rfl, rfl, rfl⟩, hl0.push _⟩ ⟨0, Nat.le_refl 0, setR_new_at (Heap.get?_push_of_some _ hS)⟩ (fun s' c m hc q => ?_)
  refine wpAny_pure (wpAny_pure (fin s' c ⟨m.gens, m.drawn, m.os⟩ (fun b o nb e => m.heap b o ?_ (Heap.get?_push_of_some _ e)) (len ▸ hc) q))
  simp only [List.mem_cons, List.not_mem_nil, or_false, not_or]
  exact ⟨nb, Nat.ne_of_lt (Heap.lt_size e)⟩
/-- set(l), l a list of ints -/
theorem call_set_ints {s : Shared} {Q : Value → Shared → Prop} (hA : A.handled = none) (hl : s.heap.IsList l items) (hi : IntsAre items.toList ns) (hb : ns.length + 1 < scanBound)
    (fin : ∀ (s' : Shared) (c : Nat), s'.gens = s.gens ∧ s'.drawn = s.drawn ∧ s'.os = s.os → (∀ b o, s.heap.get? b = some o → s'.heap.get? b = some o) → c ≤ ns.length → SetR w s'.heap s.heap.objs.size (fun j => decide (j ∈ ns)) c → Q (.ref s.heap.objs.size) s') :
    wpAny (model P w) A (call (.type "set") [.ref l]) Q E s := by
  have lt : ∀ b o, s.heap.get? b = some o → b ≠ s.heap.objs.size := fun b o e => Nat.ne_of_lt (Heap.lt_size e)
  have nl : l ≠ s.heap.objs.size := by
    obtain ⟨o, e, _⟩ := hl
    exact lt _ _ e
  refine wpAny_call (codeAny_of_tree ?_)
  have e : (model P w).den (Code.call (Value.type "set") { pos := [Value.ref l] }) = denote table (Code.call (Value.type "set") { pos := [Value.ref l] }) := rfl
  rw [e]
  unfold denote
  dsimp only
  unfold callAny
  dsimp only
  refine wpAny_pure ⟨Code.quiet_builtin _ (by decide +kernel), codeAny_builtin F.entry_type_call ?_⟩
  unfold Builtin.«type.__call__»
  dsimp only
  repeat (first
    | (refine wpAny_of_eq (F.typeCall_set_1 _) ?_)
    | (refine wpAny_of_eq F.called_set.made ?_)
    | (refine wpAny_call (code_set_led1 _ ?_))
    | (refine wpAny_isInstance (T := "set") ⟨_, Heap.get?_push_size _ rfl, rfl⟩ F.called_set.sub ?_)
    | (refine wpAny_callSpecial?_slot (T := "set") ⟨_, Heap.get?_push_size _ rfl, rfl⟩ F.called_set.init (wpAny_call (init_set (A := A.under _) hA (hl.push _) hi hb nl (Heap.get?_push_size _ rfl) (fun s' c he old hc q => ?_))))
    | wp_step)
  exact fin s' c he (fun b o h => old b o (lt b o h) (Heap.get?_push_of_some _ h)) hc q
end
section
variable {X : Cx}
def rSetI (w : World) (K : PySem.W.Frag) : List V → Hp → VK → Prop := fun xs H Q => ∃ (l : Addr) (ns : List Int), xs = [.ref l] ∧ SqL K H l (ns.map V.int) ∧ ns.length ≤ 1000 ∧
  ∀ (p : Addr) (ms : List Int), H p = none → ms.Nodup → (∀ j, j ∈ ms ↔ j ∈ ns) → Q (.ref p) (upd H p (SetO w p (fun j => decide (j ∈ ns)) ms.length))
theorem cr_setI (hc : X.calm = true) : CallR X (.type "set") (rSetI X.w X.K) := by
  intro pins s σ H xs us Q I r h
  obtain ⟨l, ns, rfl, hl, len, q⟩ := h
  rw [Vals.ref1 r]
  obtain ⟨its, rv, pl, hz⟩ := I.list hl
  refine call_set_ints (I.ok.hd hc) pl.isList (by simpa using intsAre_of rv) (by unfold scanBound; omega) (fun s' n he old hn R => ?_)
  obtain ⟨h', g', d', tk, os'⟩ := s'
  obtain ⟨e1, e2, e3⟩ := he
  simp only at e1 e2 e3
  subst e1
  subst e2
  subst e3
  have R0 := R
  obtain ⟨o, es, ep, t, ho, ex, hd, g, nd, hm, hb, hf, hz2, hr⟩ := R
  have en : n = (es.toList.map keyOf).length := by
    rw [List.length_map, Array.length_toList]
    exact hz2.symm
  subst en
  exact ⟨.ref _, _, I.laid (t' := tk) old (Nat.le_refl _) (setO_new R0), rfl, q _ _ (I.hok.fresh (Nat.le_refl _)) nd (fun j => by rw [← hm j, decide_eq_true_eq])⟩
end
end Rs
/-! sorted(found), found a set of whole of up to a thousand members. -/
namespace Rs
open PySem PySem.Spec PyProof.Rows L2
section
variable {P : Program} {w : World} {A : Around} {E : Value → Shared → Prop} {s : Shared} {a : Addr}
theorem sorted_many {S : Int → Bool} {n : Nat} {Q : Value → Shared → Prop} (R : SetR w s.heap a S n) (calm : A.handled = none) (few : n ≤ 1000)
    (fin : ∀ s' p (out : Array Value) (c : Nat) (ns : List Int), (∀ b o, s.heap.get? b = some o → s'.heap.get? b = some o) → s'.gens = s.gens → s'.os = s.os → s.heap.objs.size ≤ p →
      s'.heap.get? p = some (seqObj "list" out c) → IntsAre out.toList ns → ns.Pairwise (· < ·) → (∀ k, k ∈ ns ↔ S k = true) → ns.length = n → Q (.ref p) s') :
    wpAny (model P w) A (call (.builtin "sorted") [.ref a]) Q E s := by
  obtain ⟨o, es, ep, t, there, exact', data, good, nodup, mem, bound, hf, size, order, held⟩ := R
  refine Calls.call_function_entry kind_sorted plain_sorted entry_sorted (args_sorted1 _) ?_
  unfold Builtin.«sorted»
  refine wpAny_bind (m := checkCount "sorted" 1 1 _) (wpAny_pure ?_)
  refine wpAny_bind (collect_set (A := A.in1) calm ⟨o, there, exact'.1, data⟩ hf bound order held fun s1 vs kept up gens1 os1 perm => ?_)
  have len : vs.length = n := by rw [perm.length_eq, List.length_map, Array.length_toList]; exact size
  have whole : IntsAre vs (vs.map Builtin.Re.reRawOf) := ints_of vs fun v hv => by
    obtain ⟨e, he, q⟩ := List.mem_map.mp (perm.mem_iff.mp hv)
    obtain ⟨k, tk, h1, _⟩ := good e he
    exact ⟨k, tk, by rw [← q]; exact h1⟩
  have perm2 : (vs.map Builtin.Re.reRawOf).Perm (es.toList.map keyOf) := by
    have q := perm.map Builtin.Re.reRawOf
    rw [List.map_map] at q
    exact q
  refine wpAny_bind (wpAny_newList ?_ (by rw [len, sizeLine_eq]; omega))
  have made : (s1.heap.push (seqObj "list" vs.toArray 0)).get? s1.heap.objs.size = some (seqObj "list" vs.toArray 0) := Heap.get?_push_size _ rfl
  refine wpAny_bind (wpAny_holding (wpAny_call_entry slot_list_sort ⟨_, made, rfl⟩ entry_list_sort (list_sort_treeAny made whole (by rw [len, sizeLine_eq]; omega) fun out ns' a1 a2 a3 => ⟨_, rfl, ?_⟩) (args_list_sort _)))
  obtain ⟨c, hc⟩ := sortedHeap_at (vs := vs) (out := out) made
  have pn : ns'.Perm (es.toList.map keyOf) := a2.trans perm2
  refine wpAny_pure ⟨_, rfl, fin _ s1.heap.objs.size out c ns' (fun b u e => ?_) gens1 os1 up hc a1 (lt_of_le_nodup ns' a3 (pn.nodup_iff.mpr nodup)) (fun k => by rw [pn.mem_iff, ← mem k]) ?_⟩
  · have q := kept b u e
    have lt := Heap.lt_size q
    show (sortedHeap (s1.heap.push (seqObj "list" vs.toArray 0)) s1.heap.objs.size vs out).get? b = some u
    rw [sortedHeap_old (Nat.ne_of_lt lt) (by rw [size_push']; exact Nat.lt_succ_of_lt lt)]
    exact Heap.get?_push_of_some _ q
  · rw [pn.length_eq, List.length_map, Array.length_toList]; exact size
end
section
variable {X : Cx}
def rSortedMany (w : World) : List V → Hp → VK → Prop := fun vs H Q => ∃ (a : Addr) (S : Int → Bool) (n : Nat), vs = [V.ref a] ∧ H a = some (SetO w a S n) ∧ n ≤ 1000 ∧
  ∀ (ns : List Int) (p : Addr), ns.Pairwise (· < ·) → (∀ k : Int, k ∈ ns ↔ S k = true) → ns.length = n → H p = none → Q (.ref p) (upd H p (.lst (ns.map V.int)))
theorem cr_sortedMany (hc : X.calm = true) : CallR X (.builtin "sorted") (rSortedMany X.w) := by
  intro pins s σ H vs us Q I rel pre
  obtain ⟨a, S, n, rfl, ha, le, fin⟩ := pre
  have set0 := setO_get I ha
  rw [Vals.ref1 rel]
  refine sorted_many set0 (I.ok.hd hc) le fun s' p res c ms kept gens0 os0 new at0 whole up mem len => ?_
  have fits : (ms.map V.int).length ≤ sizeLine := by rw [List.length_map, len, sizeLine_eq]; omega
  have free : H p = none := I.hok.fresh new
  have inv : Inv X pins σ (upd H p (.lst (ms.map V.int))) { s with heap := s'.heap, gens := s'.gens, drawn := s'.drawn, toks := s'.toks } :=
    I.call (ch := []) (Un.laid kept new free) (I.hok.laid kept new ⟨fits, res.toList, c, vals_of_ints whole, at0⟩) (by rw [gens0]; exact I.bare) (fun _ z => nomatch z)
  have eqS : s' = { s with heap := s'.heap, gens := s'.gens, drawn := s'.drawn, toks := s'.toks } := by
    cases s'
    cases s
    cases os0
    rfl
  rw [eqS]
  exact ⟨.ref p, _, inv, rfl, fin ms p up mem len free⟩
end
end Rs
/-! Lambdas with parameters, without captured names, handed to a def as values; the end of a law row with tables of code objects. -/
namespace Rs
open PySem PySem.Spec PyProof.Rows L2 LamX NdefX
abbrev lamFd (F : NF) (e : Expr) (pm ctv : Value) : FuncData := PySem.W.kla_fn F.name F.qual F.params e F.scope F.cl pm (.ref F.c) ctv
/-- the object at f is the lambda with the body e -/
def LamO (f : Addr) (F : NF) (e : Expr) : HO := .ext fun h => ∃ (od : Option Addr) (sl : Array (Option Value)) (pm ctv : Value), h.get? f = some (⟨.type "function", od, .func (lamFd F e pm ctv), sl⟩ : Obj)
theorem lamO_at {P : Program} {w : World} {H : Hp} {h : Heap} {f : Addr} {F : NF} {e : Expr} (hok : HOk P w H h) (z : H f = some (LamO f F e)) : ∃ (od : Option Addr) (sl : Array (Option Value)) (pm ctv : Value), h.get? f = some (⟨.type "function", od, .func (lamFd F e pm ctv), sl⟩ : Obj) := by
  obtain ⟨q, _, _⟩ := hok f _ z
  exact q
theorem clo_nil {cells : List (Str × Addr)} : ∀ {names : List (Str × NameKind)} {acc : List (Str × Addr)}, (∀ y ∈ names, y.2 ≠ .free) → cloFrom cells names acc = acc
  | [], _, _ => rfl
  | (n, k) :: r, acc, h => by
    have hk : (k == NameKind.free) = false := by
      have z := h (n, k) List.mem_cons_self
      cases k <;> first | rfl | exact absurd rfl z
    unfold cloFrom
    rw [hk]
    exact clo_nil fun y hy => h y (List.mem_cons_of_mem _ hy)
section
variable {X : Cx} {pins : List (Addr × Obj)} {σ : L2.St} {H : Hp} {s : Shared}
theorem inv_lam {F : NF} {e : Expr} {t' : Nat} {pm ctv : Value} (I : Inv X pins σ H s) :
    Inv X pins σ (upd H s.heap.objs.size (LamO s.heap.objs.size F e)) { s with heap := s.heap.push ({ cls := .type "function", data := .func (lamFd F e pm ctv) } : Obj), toks := t' } := by
  refine I.laid (a := s.heap.objs.size) (fun b u e => Heap.get?_push_of_some _ e) (Nat.le_refl _) ?_
  have z : (s.heap.push ({ cls := .type "function", data := .func (lamFd F e pm ctv) } : Obj)).get? s.heap.objs.size = some ({ cls := .type "function", data := .func (lamFd F e pm ctv) } : Obj) := Heap.get?_push_size _ rfl
  exact ⟨⟨_, _, pm, ctv, z⟩, ⟨_, z⟩, fun h1 h2 ⟨od, sl, p, t, z⟩ st => ⟨od, sl, p, t, st _ z⟩⟩
theorem lam_mk {T : List NTab} {nm : Nat → Nat → Str} {c P : Addr} {params : Arguments} {body : Expr} {scope : Scope} {pos : Pos} {E : Value → Shared → Prop} {Q : Value → Shared → Prop} (I : Inv X pins σ H s) (TB : TabB X.base X.mg c P) (hcode : X.env.code = .ref c)
    (here : (P, nm) ∈ T) (nmEq : nm pos.line pos.col = X.env.qual ++ "<lambda>") (one : ∀ p ∈ T, p.1 = P → p.2 = nm) (tabs0 : TabsN T H) (hdef : defaultsOf params X.env = ([], [])) (hfree : ∀ y ∈ scope.names, y.2 ≠ .free)
    (h : ∀ (f c' : Addr) (H1 : Hp) (sn : Shared), Inv X pins σ H1 sn → ExtN H H1 → (∀ b, H1 b = Option.none → H b = Option.none) → TabsN T H1 → H f = none → H1 f = some (LamO f ⟨"<lambda>", X.env.qual ++ "<lambda>", params, [], scope, [], c'⟩ body) → H1 c' = some (CodeO c' (X.env.qual ++ "<lambda>")) → Q (.ref f) sn) :
    wpAny (model X.prog X.w) X.A (eval (.Lambda params body scope pos) X.env) Q E s := by
  obtain ⟨held, atTab, good, told⟩ := (show TabN H P nm from tabs0 _ here)
  refine PySem.W.kla_eval hdef ?_
  have bltn : s.heap.BuiltinsAt X.mg P := TB.bm.keeps I.bk
  have tabIs : s.heap.get? P = some { cls := .none, data := .fields held } := I.hok P _ atTab
  have noClo : closureFor scope X.env = pure [] := by
    have z := closure_ok (scope := scope) (env := X.env) fun y hy e => absurd e (hfree y hy)
    rw [clo_nil hfree] at z
    exact z
  cases look : codeAmong pos held.toList with
  | none =>
    refine PySem.W.kla_makeFunction (mg := X.mg) (c := c) (P := P) (ps := held) noClo I.ok.glob (I.mod.glob.keeps I.bk) hcode (TB.code.keeps I.bk) tabIs good look TB.gP bltn fun c' ctv hh tk kept0 above below rec0 tabNow => ?_
    obtain ⟨cc, cob, flds, tk0, same2, isCode, data0, name0⟩ := rec0
    cases same2
    have newC : H c' = none := I.hok.fresh above
    have J1 := inv_table (t' := tk) (more := #[rawInt pos.line, rawInt pos.col, .ref c']) (h' := hh) I atTab (fun b o same e => kept0 b o same e) tabNow above ⟨cob, flds, tk0, isCode, data0, name0⟩
    have keepN : ExtN H (upd (upd H P (.tbl (held ++ #[rawInt pos.line, rawInt pos.col, .ref c']))) c' (CodeO c' (X.env.qual ++ "<lambda>"))) := fun b o e n => by
      rw [upd_ne (ne_of_none e newC), upd_ne (fun z => n held (Option.some.inj (e.symm.trans (by rw [z]; exact atTab))))]
      exact e
    have eqL : (held ++ #[rawInt pos.line, rawInt pos.col, .ref c']).toList = held.toList ++ [rawInt pos.line, rawInt pos.col, .ref c'] := by simp
    have tabs1 : TabsN T (upd (upd H P (.tbl (held ++ #[rawInt pos.line, rawInt pos.col, .ref c']))) c' (CodeO c' (X.env.qual ++ "<lambda>"))) := fun p hp => by
      by_cases same : p.1 = P
      · rw [one p hp same, same]
        refine ⟨_, by rw [upd_ne (ne_of_none atTab newC), upd_same], by rw [eqL]; exact PySem.TriplesOk_snoc _ _ _ _ good, fun p' cv hit => ?_⟩
        rw [eqL] at hit
        rcases among_app2 _ good hit with z | ⟨z, lineEq, colEq⟩
        · obtain ⟨cod, q1, same2⟩ := told p' cv z
          exact ⟨cod, q1, keepN _ _ same2 codeO_ne⟩
        · refine ⟨c', z, ?_⟩
          rw [← lineEq, ← colEq, nmEq]
          exact upd_same
      · obtain ⟨held', w1, w2, w3⟩ := tabs0 p hp
        refine ⟨held', by rw [upd_ne (ne_of_none w1 newC), upd_ne same]; exact w1, w2, fun p' cv hit => ?_⟩
        obtain ⟨cod, q1, same2⟩ := w3 p' cv hit
        exact ⟨cod, q1, keepN _ _ same2 codeO_ne⟩
    have newF := J1.hok.fresh (Nat.le_refl _)
    have J2 := inv_lam (F := ⟨"<lambda>", X.env.qual ++ "<lambda>", params, [], scope, [], c'⟩) (e := body) (t' := tk) (pm := (X.mg "__name__").getD .none) (ctv := ctv) J1
    refine h hh.objs.size c' _ _ J2 (fun b o e n => ?_) (fun b e => upd_none (upd_none (upd_none e))) (tabs1.ext fun b o e => ?_) (I.hok.fresh (Nat.le_trans above (Nat.le_of_lt below))) upd_same ?_
    · have q1 := keepN b o e n
      exact (upd_ne (ne_of_none q1 newF)).trans q1
    · exact (upd_ne (ne_of_none e newF)).trans e
    · exact (upd_ne (Nat.ne_of_lt below)).trans upd_same
  | some cv =>
    obtain ⟨c', e, known⟩ := told pos cv look
    subst e
    rw [nmEq] at known
    refine PySem.W.kla_makeFunctionHit (mg := X.mg) (c := c) (P := P) (ps := held) noClo I.ok.glob (I.mod.glob.keeps I.bk) hcode (TB.code.keeps I.bk) tabIs good look bltn fun ctv hh tk kept0 size0 => ?_
    have J1 : Inv X pins σ H { s with heap := hh, toks := tk } := I.kept kept0
    have newF : H hh.objs.size = none := J1.hok.fresh (Nat.le_refl _)
    have J2 := inv_lam (F := ⟨"<lambda>", X.env.qual ++ "<lambda>", params, [], scope, [], c'⟩) (e := body) (t' := tk) (pm := (X.mg "__name__").getD .none) (ctv := ctv) J1
    refine h hh.objs.size c' _ _ J2 (fun b o e n => ?_) (fun b e => upd_none e) (tabs0.ext fun b o e => ?_) newF upd_same ?_
    · exact (upd_ne (ne_of_none e newF)).trans e
    · exact (upd_ne (ne_of_none e newF)).trans e
    · exact (upd_ne (ne_of_none known newF)).trans known
end
/-- the reading of lambda ..: body -/
def tLm (T : List NTab) (q : Str) (params : Arguments) (scope : Scope) (body : Expr) : TE := fun σ H Q => TabsN T H ∧ ∀ (f c' : Addr) (H1 : Hp), ExtN H H1 → (∀ b, H1 b = Option.none → H b = Option.none) → TabsN T H1 → H f = none → H1 f = some (LamO f ⟨"<lambda>", q, params, [], scope, [], c'⟩ body) → H1 c' = some (CodeO c' q) → Q (.ref f) H1
theorem pe_lam {X : Cx} {T : List NTab} {nm : Nat → Nat → Str} {c P : Addr} {params : Arguments} {body : Expr} {scope : Scope} {pos : Pos} {q : Str} (TB : TabB X.base X.mg c P) (hcode : X.env.code = .ref c)
    (hm : (P, nm) ∈ T) (hn : nm pos.line pos.col = q) (hu : ∀ p ∈ T, p.1 = P → p.2 = nm) (hq : X.env.qual ++ "<lambda>" = q) (hdef : defaultsOf params X.env = ([], [])) (hfree : ∀ y ∈ scope.names, y.2 ≠ .free) :
    PE X (.Lambda params body scope pos) (tLm T q params scope body) := by
  subst hq
  refine ⟨fun pins s σ H Q I h => ?_⟩
  obtain ⟨hT, h⟩ := h
  exact lam_mk I TB hcode hm hn hu hT hdef hfree fun f c' H1 s' I1 eN nn T1 f0 f1 c1 => ⟨.ref f, H1, I1, rfl, h f c' H1 eN nn T1 f0 f1 c1⟩
/-! ### what a lambda promises -/
structure LOk (P : Program) (w : World) (K : PySem.W.Frag) (mg : Str → Option Value) (base : Heap) (CX : CXT) (k : Nat) (f : Addr) (F : NF) (e : Expr) (ps : List Str) (sp : Sp) : Prop where
  len : ∀ vs H Q E, sp vs H Q E → vs.length = ps.length
  run : ∀ (A : Around) (outer : List Env) (s : Shared) (H : Hp) (us : List Value) (vs : List V) (Q : VK) (E : XK), Room k A → Env0 P w K mg base A outer s H → H f = some (LamO f F e) → H F.c = some (CodeO F.c F.qual) →
    Vals vs us → sp vs H Q E → codeAny (model P w) A (.call (.ref f) ⟨us, []⟩) (CR CX outer P w H s Q E) s
section
variable {CX : CXT} {P : Program} {w : World} {K : PySem.W.Frag} {mg : Str → Option Value} {base : Heap} {N ps : List Str} {F : NF} {f : Addr} {e : Expr} {k : Nat} {sp : Sp}
theorem lok_of (S : NScope N ps [] F.scope) (hcl : F.cl = []) (hb : ∀ (pm ctv : Value) (us : List Value), us.length = ps.length → bindArgs (lamFd F e pm ctv) ⟨us, []⟩ = pure (ps.zip us)) (len : ∀ vs H Q E, sp vs H Q E → vs.length = ps.length)
    (hbody : ∀ (A : Around) (outer : List Env) (s : Shared) (H : Hp) (vs : List V) (Q : VK) (E : XK), Room k (A.deeper (envF F f s.heap.objs.size)) → sp vs H Q E →
      ∃ t, PE (ncx CX P w K mg base N F f A outer s H E) e t ∧ t (startF N vs []) H Q) :
    LOk P w K mg base CX (k + 1) f F e ps sp := by
  refine ⟨len, fun A outer s H us vs Q E room env atF atC rel pre => ?_⟩
  have many := len _ _ _ _ pre
  have free : s.heap.NoLimit := env.mod.nolimit.keeps fun b o e => (env.bs b o e).1
  obtain ⟨od, sl, pm, ctv, obj⟩ := lamO_at env.hok atF
  have C : CellsAt F.cl [] [] s.heap H := by
    rw [hcl]
    exact ⟨rfl, fun y c z => (nomatch z), fun x y c z => (nomatch z), fun i y z => (nomatch z)⟩
  refine PySem.W.kla_callFunE room.depth obj rfl S.co S.gen rfl (codeO_at env.hok atC) ?_
  rw [hb pm ctv us (by rw [← rel.length]; exact many)]
  refine wpAny_pure (wpAny_newFunctionEnv S.nocell (fun ⟨n, _⟩ mem => S.par n (List.of_mem_zip mem).1) (fun h₁ names but => ⟨free.fresh _ but, ?_⟩) S.kind)
  show codeAny _ _ (.expr e (envF F f s.heap.objs.size)) _ _
  have kept : ∀ b o, s.heap.get? b = some o → h₁.get? b = some o := fun b o e => but.extBut b o (Nat.ne_of_lt (Heap.lt_size e)) (Heap.get?_push_of_some _ e)
  obtain ⟨t, der, rd⟩ := hbody A outer s H vs Q E (room.deeper _) pre
  have I : Inv (ncx CX P w K mg base N F f A outer s H E) [] (startF N vs []) H { s with heap := h₁, toks := s.toks + (ps.zip us).length } := inv_startN S room.hd env many rel C names kept
  refine PySem.W.kla_codeExpr (wpAny_mono (der.run [] _ (startF N vs []) H Q I rd) (fun v s' rd => ?_) fun e s' rd => rd)
  obtain ⟨w', H', J, rw, q⟩ := rd
  exact (⟨w', H', J.os, J.bare, J.base, J.hok, rw, q⟩ : CE outer P w H s Q v s')
end
/-- its promise, whatever its parameters are called -/
def LamK (P : Program) (w : World) (K : PySem.W.Frag) (mg : Str → Option Value) (base : Heap) (k : Nat) (f : Addr) (F : NF) (e : Expr) (sp : Sp) : Prop := ∃ ps, LOk P w K mg base CX0 k f F e ps sp
/-- f(..), f a name that holds a lambda -/
def tCallL (L : Addr → NF → Expr → Sp → Prop) (i : Nat) (E : XK) (t : TA) : TE := fun σ H Q => ∃ (f : Addr) (F : NF) (b : Expr) (sp : Sp), σ[i]? = some (some (.ref f)) ∧ H f = some (LamO f F b) ∧ L f F b sp ∧
  t σ H fun vs H1 => H1 f = some (LamO f F b) ∧ H1 F.c = some (CodeO F.c F.qual) ∧ sp vs H1 Q E
section
variable {X : Cx} {L : Addr → NF → Expr → Sp → Prop} {i k j : Nat} {x : Str} {E : XK} {t : TA} {e : Expr} {es : List Expr} {p pos : Pos}
theorem lamAt_of {pins : List (Addr × Obj)} {σ : L2.St} {H : Hp} {s : Shared} {f : Addr} {F : NF} {b : Expr} (I : Inv X pins σ H s) (z : H f = some (LamO f F b)) : PySem.W.FnAt f s.heap := by
  obtain ⟨od, sl, pm, ctv, ho⟩ := lamO_at I.hok z
  exact ⟨_, od, _, sl, ho⟩
theorem pe_calll (hL : ∀ f F b sp, L f F b sp → LamK X.prog X.w X.K X.mg X.base k f F b sp) (hr : Room j X.A) (hk : k ≤ j) (hx : Passes CX0 X E) (hN : X.N[i]? = some x) (hv : Vis X.env.scope x) (ha : PA X (e :: es) t)
    (hd : (x == ("__debug__" : Str)) = false := by decide) (hcd : (x == ("__classdict__" : Str)) = false := by decide)
    (he : starEach (e :: es) X.env = (false, eval e X.env) :: starEach es X.env := by rfl) (hpl : (backTo pos (starEach es X.env)).any (·.1) = false := by rfl) :
    PE X (.Call (.Name x p) (e :: es) [] pos) (tCallL L i E t) := by
  refine ⟨fun pins s σ H Q I h => ?_⟩
  obtain ⟨f, F, b, sp, slot, atF, isL, rd⟩ := h
  obtain ⟨ps, LO⟩ := hL f F b sp isL
  refine wpAny_Call_Name_kw (thn ((pe_var (pos := p) hN hv hd hcd).run pins s σ H (fun v H1 => v = .ref f ∧ H1 = H) I ⟨.ref f, slot, rfl, rfl⟩) fun u s1 ⟨v, H1, J1, rel1, both⟩ => ?_)
  obtain ⟨isF, sameH⟩ := both
  subst isF
  rw [sameH] at J1
  obtain rfl : u = Value.ref f := rel1
  refine PySem.W.callWith_F (first := []) (lamAt_of J1 atF) (thn (ha.run pos pins s1 σ H _ J1 rd) fun us s2 ⟨vs, H2, J2, r, h1, h2, q⟩ => ⟨lamAt_of J2 h1, ?_⟩) he hpl
  show wpAny _ _ (call (.ref f) us) _ _ _
  refine wpAny_call (codeAny_mono (LO.run X.A X.stack s2 H2 us vs Q E (hr.mono hk) J2.env0 h1 h2 r q) fun r s' out => ?_)
  cases r with
  | error e => exact hx pins σ H2 s2 e s' J2 out
  | ok fl =>
    cases fl with
    | ret u => exact J2.after out
    | next => exact False.elim out
    | brk => exact False.elim out
    | cont => exact False.elim out
end
/-! ### all but the tables stay -/
theorem ExtN.of_same {H H' : Hp} (s : Same H H') : ExtN H H' := fun b o h _ => s b o h
theorem TabsN.same {T : List NTab} {H H' : Hp} (t : TabsN T H) (s : Same H H') : TabsN T H' := TabsN.ext t s
/-- all but the list at b and the tables is as it was -/
def ButN (b : Addr) (H H' : Hp) : Prop := ∀ a o, a ≠ b → (∀ ps, o ≠ .tbl ps) → H a = some o → H' a = some o
theorem ButN.refl (b : Addr) (H : Hp) : ButN b H H := fun _ _ _ _ h => h
theorem ButN.trans {b : Addr} {H H1 H2 : Hp} (x : ButN b H H1) (y : ButN b H1 H2) : ButN b H H2 := fun a o n t h => y a o n t (x a o n t h)
theorem ButN.of {b : Addr} {H H' : Hp} (x : But b H H') : ButN b H H' := fun a o n _ h => x a o n h
theorem ButN.ofN {b : Addr} {H H' : Hp} (x : ExtN H H') : ButN b H H' := fun a o _ t h => x a o h t
theorem frozen_tbl {o : HO} (h : frozen o) : ∀ ps, o ≠ .tbl ps := fun ps e => by
  rw [e] at h
  exact h
theorem ExtN.fz {H H' : Hp} (x : ExtN H H') : Fz H H' := fun a o f h => x a o h (frozen_tbl f)
theorem TabsN.but {T : List NTab} {b : Addr} {H H' : Hp} (t : TabsN T H) (hb : Box H b) (k : But b H H') : TabsN T H' := by
  obtain ⟨x, y, z, hb, _⟩ := hb
  intro p hp
  obtain ⟨ps, h1, h2, h3⟩ := t p hp
  refine ⟨ps, k _ _ (fun q => ?_) h1, h2, fun pos cv hc => ?_⟩
  · rw [q, hb] at h1
    cases h1
  · obtain ⟨c, e1, e2⟩ := h3 pos cv hc
    refine ⟨c, e1, k _ _ (fun q => ?_) e2⟩
    rw [q, hb] at e2
    unfold CodeO at e2
    cases e2
theorem Box.extN {b : Addr} {H H' : Hp} (x : Box H b) (s : ExtN H H') : Box H' b := by
  obtain ⟨x, y, z, h, i⟩ := x
  exact ⟨x, y, z, s _ _ h (fun _ e => by cases e), i⟩
/-! ### the end -/
/-- the tables of the defs of the top are known and empty -/
def TabsTop (K : PySem.W.Frag) (names : List Str) (h : Heap) : Prop := ∀ x ∈ names, ∀ c P, PySem.W.tabIn K x = some (c, P) → PySem.W.CodeHd h c P ∧ h.get? P = some (PySem.W.tabObj #[])
theorem walk_tabs {l : PySem.W.OpenLaw} {n k : Nat} {q : Program} {loose : List Str} {XP : (Str → Option Value) → Heap → Prop} {YP : World → Heap → Prop} {d : DefRec} {K : Params → PySem.W.Frag} {CX : World → CXT} {x : Str} (names : List Str)
    (most : l.most = some n) (fits : n ≤ sizeLine) (noDef : d.params.defaults = []) (room : Room k callerA) (hrec : names.all (fun y => ((recsOf q).find? fun e => e.name == y).isSome) = true) (frag : ∀ (w : World) (h : Heap), YP w h → (K w.params).In h)
    (F : ∀ (w : World) (mg : Str → Option Value) (fa : Addr) (h : Heap), YP w h → (K w.params).In h → h.Ns mainGlobals mg → mg d.name = some (.ref fa) → TabsTop (K w.params) names h → LawAtS l w (K w.params) (CX w) k n x mg fa h)
    (never : ∀ (w : World) (H : Hp) (s : Shared) (e : Value) (s' : Shared), CX w [] H s (fun _ _ _ => False) e s' → False) :
    PySem.W.WalkO q loose XP YP l.row.toRowW d [] (fun f vs => PySem.call f vs) := by
  refine Att.attach_callB most noDef fun w s₀ s₁ mg mb fa o pm cd doc a vs ns G Y ho hd hcd isLaw hobj hints hlen hbits hg => ?_
  have inK := frag w _ Y
  have tabs : TabsTop (K w.params) names s₁.heap := fun y hy c P ht => by
    have z := List.all_eq_true.mp hrec y hy
    obtain ⟨dL, hdL⟩ := Option.isSome_iff_exists.mp z
    exact PySem.W.tab_of G.T inK hdL ht
  obtain ⟨fd, cs, sp, hT, nT, C, hb, hsp, hF⟩ := F w mg fa _ Y inK G.T.g isLaw tabs
  exact law_callTs inK G.T.g G.T.b G.T.builtins G.T.nolimit hg hT nT C G.T.bmain hobj hints (Nat.le_trans hlen fits) room hF hb (fun H hH hS => hsp H a ns hlen hbits hH hS) fun H e s' => never w H s₁ e s'
end Rs
namespace Rs
open PySem PySem.Spec PyProof.Rows L2 LamX NdefX
/-- the name of the lambdas in the def x -/
def lamQ (x : Str) : Str := x ++ ".<locals>." ++ "<lambda>"
theorem code_tab {K : PySem.W.Frag} {x : Str} {f c P : Addr} {oc : Value} {od : Option Addr} {fd : FuncData} {sl : Array (Option Value)} (a : PySem.W.nsIn K mainGlobals x = some (some (.ref f))) (l : K.lookup f = some ⟨oc, od, .func fd, sl⟩) (t : PySem.W.tabIn K x = some (c, P)) : fd.code = .ref c := by
  unfold PySem.W.tabIn at t
  rw [a] at t
  dsimp only at t
  rw [l] at t
  dsimp only at t
  split at t
  · rename_i c2 hc
    split at t
    · split at t
      · cases t
        exact hc
      · cases t
    · cases t
  · cases t
/-- a def by its body, with what is known of its code object -/
theorem Fun.okC {P : Program} {w : World} {K : PySem.W.Frag} {mg : Str → Option Value} {base : Heap} {x qual : Str} {st : Stmt} {f : Addr} {fd : FuncData} {N ps : List Str} {k : Nat} {sp : Sp} (F : Fun K x qual st f fd) (S : FnScope N ps (defScope st)) (len : ∀ vs H Q E, sp vs H Q E → vs.length = ps.length)
    (hbody : ∀ (cdv : Value), fd.code = cdv → ∀ (A : Around) (outer : List Env) (s : Shared) (H : Hp) (vs : List V) (Q : VK) (E : XK), Room k (A.deeper (envOfC qual (defScope st) s.heap.objs.size f cdv)) → sp vs H Q E →
      ∃ t, PSs (cxOf CX0 P w K mg base N qual (defScope st) f cdv A outer s H E).nox (defBody st) t ∧ t { nx := fun _ H' => Q .non H', rt := Q } (start N vs) H) : FnOk P w K mg base CX0 (k + 1) f fd ps sp := by
  obtain ⟨oc, od, kV, doc, pm, an, cdv, ct, osl, rfl, lk, hcd⟩ := F.ex
  refine fn_of lk hcd S len fun A outer s H vs Q E hr hsp => ?_
  obtain ⟨t, h, q⟩ := hbody cdv rfl A outer s H vs Q E hr hsp
  exact ⟨t, h.nox, q⟩
/-- [e for x in l if t] over a list of ints -/
theorem lsel {K : PySem.W.Frag} {L : Addr} {ns : List Int} {te el : TE} {tt : TT} {sl : Nat} {σ : L2.St} {H : Hp} {Q : VK} (c : Int → Bool) (f : Int → V) (hte : ∀ R : VK, R (.ref L) H → te σ H R) (hL : H L = some (.lst (ns.map V.int))) (ln : ns.length ≤ 3000)
    (htt : ∀ n ∈ ns, ∀ (Hc : Hp) (R : Bool → Hp → Prop), Same H Hc → (∀ Hd, Same Hc Hd → R (c n) Hd) → tt ((wipe σ [sl]).set sl (some (.int n))) Hc R)
    (hel : ∀ n ∈ ns, ∀ (Hc : Hp) (R : VK), Same H Hc → (∀ Hd, Same Hc Hd → R (f n) Hd) → el ((wipe σ [sl]).set sl (some (.int n))) Hc R)
    (k : ∀ D H', H D = none → Same H H' → H' D = some (.lst ((ns.filter c).map f)) → Q (.ref D) H') : tLc (iList K te) (gName sl) tt el [sl] σ H Q := by
  refine hte _ ⟨L, rfl, ⟨_, SqL.of hL⟩, fun D hD => lc_it walk_list (fun i Hc => Hc D = some (.lst (((ns.take i).filter c).map f)) ∧ Same H Hc) ⟨upd_same, same_new hD⟩ (fun i Hc _ hR => hR.2.seq (SqL.of hL)) (fun j x Hc H' hj hR hy => ?_) (fun Hc hR => ?_)⟩
  · obtain ⟨rfl, hx⟩ := hy
    obtain ⟨hDc, sc⟩ := hR
    rw [List.getElem?_map] at hx
    obtain ⟨n, hn, rfl⟩ := Option.map_eq_some_iff.mp hx
    refine ⟨by simp [wipe, List.set_set], htt n (List.mem_of_getElem? hn) _ _ sc fun Hd sd => ?_⟩
    have z : (ns.take (j + 1)).filter c = (ns.take j).filter c ++ (if c n = true then [n] else []) := by
      rw [take_snoc hn, List.filter_append, List.filter_cons, List.filter_nil]
    refine ifB (fun e => ?_) (fun e => ?_)
    · refine hel n (List.mem_of_getElem? hn) _ _ (sc.trans sd) fun He se => ⟨_, se _ _ (sd _ _ hDc), ?_, ?_, same_lst ((sc.trans sd).trans se) hD⟩
      · rw [List.length_map]
        have := List.length_filter_le c (ns.take j)
        rw [List.length_take] at this
        exact szL2 (by omega)
      · rw [upd_same, z, e, if_pos rfl, List.map_append]
        rfl
    · refine ⟨?_, sc.trans sd⟩
      rw [z, e, if_neg Bool.false_ne_true, List.append_nil]
      exact sd _ _ hDc
  · rw [List.length_map, List.take_length] at hR
    exact k D Hc hD hR.2 hR.1
/-- [e for x in t] over a tuple of any things -/
theorem lmapTI {K : PySem.W.Frag} {L : Addr} {xs : List V} {te el : TE} {sl : Nat} {σ : L2.St} {H : Hp} {Q : VK} (f : Nat → V) (hte : ∀ R : VK, (∀ H1, Same H H1 → H1 L = some (.tup xs) → R (.ref L) H1) → te σ H R) (ln : xs.length ≤ 3000)
    (hel : ∀ (j : Nat) (x : V), xs[j]? = some x → ∀ (Hc : Hp) (R : VK), Same H Hc → (∀ Hd, Same Hc Hd → R (f j) Hd) → el ((wipe σ [sl]).set sl (some x)) Hc R)
    (k : ∀ D H', H D = none → Same H H' → H' D = some (.lst ((List.range xs.length).map f)) → Q (.ref D) H') : tLc (iTup K te) (gName sl) tYes el [sl] σ H Q := by
  refine hte _ fun H1 s1 hL => ⟨L, rfl, ⟨_, SqT.of hL⟩, fun D hD => lc_it walk_tup (fun i Hc => Hc D = some (.lst ((List.range i).map f)) ∧ Same H1 Hc) ⟨upd_same, same_new hD⟩ (fun i Hc _ hR => (Fz.of_same hR.2).sqT (SqT.of hL)) (fun j x Hc H' hj hR hy => ?_) (fun Hc hR => k D Hc (s1.free hD) (s1.trans hR.2) hR.1)⟩
  obtain ⟨rfl, hx⟩ := hy
  obtain ⟨hDc, sc⟩ := hR
  refine ⟨by simp [wipe, List.set_set], ?_⟩
  dsimp only [tYes]
  rw [if_pos rfl]
  have lt : j < xs.length := (List.getElem?_eq_some_iff.mp hx).1
  refine hel j x hx _ _ (s1.trans sc) fun Hd sd => ?_
  refine ⟨_, sd _ _ hDc, ?_, ?_, same_lst (sc.trans sd) hD⟩
  · rw [List.length_map, List.length_range]
    exact szL2 (by omega)
  · rw [upd_same, List.range_succ, List.map_append]
    rfl
end Rs
/-! a[i] op= p, where a is a list and its item an instance whose class has op but no in-place op. -/
namespace Rs
open PySem PySem.Spec PyProof.Rows L2
/-- the class's chain is itself and object -/
def mro2 (K : PySem.W.Frag) (C : Addr) : Bool := (PySem.W.clsIn K C).any fun cd => cd.mro == [.ref C, .type "object"]
theorem fillsI_none {K : PySem.W.Frag} {M : Model} {C : Addr} {h : Heap} {nm : String} {add : Bool} (X : K.In h) (hm : mro2 K C = true) (hs : PySem.W.findIn K (.ref C) (dunderI nm) = some none) (ho : PySem.W.findIn K (.type "object") (dunderI nm) = some none) : PySem.W.Looks M h (fillsInplaceSlot (.ref C) nm add) false := by
  intro A Q E s k q
  obtain ⟨cd, hc, hm⟩ := PySem.W.any_some hm
  have hm := beq_iff_eq.mp hm
  unfold fillsInplaceSlot
  dsimp only
  refine wpAny_bind ((PySem.W.looks_clsIn X hc).andThen (f := fun cd => pure cd.mro) .now A _ E s k ?_)
  rw [hm, List.anyM_cons]
  refine wpAny_bind (wpAny_bind (PySem.W.looks_findIn X hs A _ E s k ?_))
  dsimp only
  refine wpAny_pure ?_
  try dsimp only
  rw [List.anyM_cons]
  refine wpAny_bind (wpAny_bind (PySem.W.looks_findIn X ho A _ E s k ?_))
  dsimp only
  refine wpAny_pure ?_
  try dsimp only
  rw [List.anyM_nil]
  exact wpAny_pure q
section
variable {prog : Program} {w : World} {A : Around} {E : Value → Shared → Prop} {s : Shared} {K : PySem.W.Frag} {x C L f : Addr} {h₀ : Heap} {m : Str → Option Value} {ox : Obj} {od : Option Obj}
theorem inplace_K {op : Operator} {b : Value} {Q : Value → Shared → Prop} (F : Fr h₀ L s.heap m) (X₀ : K.In h₀) (I : PySem.W.InstAt s.heap x ox C od) (tyB : PySem.W.Looks (model prog w) s.heap (typeOf b) (.ref C)) (hc : PySem.W.selfFirst K C = true)
    (chain : mro2 K C = true) (hi : PySem.W.findIn K (.ref C) (dunderI op.info.2) = some none) (ho : PySem.W.findIn K (.type "object") (dunderI op.info.2) = some none)
    (meth : PySem.W.findIn K (.ref C) (PySem.dunder op.info.2) = some (some (.ref f))) (isF : PySem.W.isFn K (.ref f) = true)
    (h : wpAny (model prog w) A (call (.ref f) [.ref x, b]) (PySem.W.CmpBack Q) E s) : wpAny (model prog w) A (inplaceOp op (.ref x) b) Q E s := by
  have X := X₀.keeps F.keep
  obtain ⟨cd, isCd, first⟩ := PySem.W.any_some hc
  obtain ⟨more, first⟩ : ∃ more, cd.mro = .ref C :: more := by
    cases q : cd.mro with
    | nil => rw [q] at first; cases first
    | cons a r => rw [q] at first; exact ⟨r, by rw [List.head?_cons] at first; cases (beq_iff_eq.mp first); rfl⟩
  unfold inplaceOp
  refine wpAny_holding (wpAny_bind (I.type.here (wpAny_bind ((fillsI_none X chain hi ho).here ?_))))
  simp only [Bool.false_eq_true, if_false]
  refine wpAny_bind ?_
  unfold binaryOp1
  refine wpAny_bind (I.type.here (wpAny_bind (tyB.here (wpAny_bind ((PySem.W.fills_K X isCd first meth).here ?_)))))
  simp only [beq_self_eq_true, if_true]
  refine wpAny_bind (wpAny_pure ?_)
  simp only [Bool.and_false, Bool.false_eq_true, if_false, Bool.false_and]
  refine wpAny_bind (wpAny_pure ?_)
  simp only [Bool.false_eq_true, if_false]
  refine wpAny_bind (m := tryMethod (.ref x) _ b) ?_
  unfold tryMethod
  refine wpAny_bind (PySem.W.special_fn X I meth (beq_iff_eq.mp isF) (wpAny_mono h (fun v s' val => ?_) fun _ _ e => e))
  cases v <;> first | exact val.elim | exact wpAny_pure (wpAny_pure (wpAny_pure val))
end
section
variable {X : Cx} {CX : CXT} {C g : Addr} {n : Nat} {sp : Sp} {E : XK}
theorem ip_binM {op : Operator} (M : Meth X.K C (dunder op.info.snd) g) (hc : PySem.W.selfFirst X.K C = true) (hm : mro2 X.K C = true) (hi : PySem.W.findIn X.K (.ref C) (dunderI op.info.2) = some none) (ho : PySem.W.findIn X.K (.type "object") (dunderI op.info.2) = some none)
    (F : FnR X.prog X.w X.K X.mg X.base CX n g sp) (hr : Room n X.A) (hx : Passes CX X E) : PIp X op (rBinM C sp E) := by
  intro pins s σ H x y v u Q I rx ry h
  obtain ⟨a, dx, fs, b, dy, gs, rfl, rfl, ha, hb, q⟩ := h
  cases (show v = Value.ref a from rx)
  cases (show u = Value.ref b from ry)
  obtain ⟨ox, od, J⟩ := ins_at I ha
  obtain ⟨oy, ody, Jb⟩ := ins_at I hb
  obtain ⟨m, hF⟩ := I.fr
  refine inplace_K hF I.ok.mod.kin J Jb.type hc hm hi ho M.at_ M.fn ?_
  refine wpAny_mono (wpAny_call (run_fnR (us := [.ref a, .ref b]) (vs := [.ref a, .ref b]) F hr hx I (.cons rfl (.cons rfl .nil)) q)) (fun w s' z => ?_) fun _ _ x => x
  obtain ⟨z', H', I', rz, qz⟩ := z
  exact SlX.cmpback rz ⟨z', H', I', rz, qz⟩
/-- xs[k], k at least 0 -/
def rGetL (K : PySem.W.Frag) : V → V → Hp → VK → Prop := fun x y H Q => ∃ p xs k v, x = .ref p ∧ y = .int k ∧ SqL K H p xs ∧ 0 ≤ k ∧ xs[k.toNat]? = some v ∧ Q v H
theorem get_list : PGet X (rGetL X.K) := by
  intro pins s σ H o i ov iv Q I ro ri h
  obtain ⟨p, xs, k, v, rfl, rfl, hq, k0, he, q⟩ := h
  cases ro
  obtain ⟨t, rfl⟩ := ri
  obtain ⟨its, r, pl, hz⟩ := I.list hq
  obtain ⟨w, ew, rw'⟩ := r.get he
  have hl := r.length
  have hn := line63
  have lt : k.toNat < xs.length := (List.getElem?_eq_some_iff.mp he).1
  exact wpAny_getItem_list pl.isList k0 (by omega) (by simpa using ew) ⟨v, H, I, rw', q⟩
end
end Rs
namespace K32
open PySem PySem.Spec PyProof.Rows L2 Rs LamX NdefX
local macro_rules | `(tactic| walk_at "om") => `(tactic| first | omega | (dsimp only; omega))
local macro_rules | `(tactic| walk_at "side") => `(tactic| first | omega | (dsimp only; omega) | decide | (unfold CMul; omega) | (unfold CDiv; omega) | (unfold CPow; omega) | exact wide_div (b := 64) (by omega) (by omega) (by decide) (by decide))
local macro_rules | `(tactic| walk_at "hp") => `(tactic| first | assumption | exact upd_same)
local macro_rules | `(tactic| walk_at "sq") => `(tactic| first | assumption | exact SqL.of (by assumption) | exact SqL.of upd_same)
local macro_rules | `(tactic| walk_at "st") => `(tactic| first
  | refine ⟨_, rfl, ?_⟩
  | (refine ⟨_, _, rfl, rfl, And.intro ?side ?_⟩; (case side => walk_at "side"))
  | refine ⟨_, _, rfl, rfl, ?_⟩
  | (refine' ⟨_, _, _, _, rfl, rfl, SqL.of ?hp, ?atx, ?_⟩; (case hp => walk_at "hp"); (case atx => exact rfl))
  | (refine' ⟨_, _, _, _, rfl, rfl, ?hp, ?atx, ?_⟩; (case hp => walk_at "hp"); (case atx => exact rfl))
  | (refine' ⟨_, _, rfl, Or.inl ?sq, ?_⟩; (case sq => walk_at "sq"))
  | refine Or.inl ⟨_, rfl, ?_⟩
  | refine Or.inr ⟨_, rfl, ?_⟩)
local macro_rules | `(tactic| walk_at "evd") => `(tactic| first
  | exact evd_int
  | exact evd_str
  | exact evd_non
  | exact evd_bl
  | exact evd_nil
  | (refine evd_cons ?_ (fun _ => ?_) <;> walk_at "evd")
  | (refine evd_tup ?_ (Nat.le_of_ble_eq_true rfl); walk_at "evd"))

def topS (i : Nat) : Stmt := PySem.Challenge.pw_ringsums_k32_signs_of_calendars.main.body.getD i (.Pass ⟨0, 0, 0, 0⟩)
abbrev s_Calendar___init__ : Stmt := inClass (topS 13) 0
theorem sc_Calendar___init__ : FnScope ["self", "few", "start", "period", "rests"] ["self", "few", "start", "period", "rests"] (defScope s_Calendar___init__) := ⟨rfl, rfl, rfl, by decide +kernel, rfl, by decide +kernel, by decide +kernel⟩
abbrev s_Calendar___invert__ : Stmt := inClass (topS 13) 5
theorem sc_Calendar___invert__ : FnScope ["self", "flags", "flag"] ["self"] (defScope s_Calendar___invert__) := ⟨rfl, rfl, rfl, by decide +kernel, rfl, by decide +kernel, by decide +kernel⟩
abbrev s_Calendar___eq__ : Stmt := inClass (topS 13) 14
theorem sc_Calendar___eq__ : FnScope ["self", "other"] ["self", "other"] (defScope s_Calendar___eq__) := ⟨rfl, rfl, rfl, by decide +kernel, rfl, by decide +kernel, by decide +kernel⟩
abbrev s_Calendar___and__ : Stmt := inClass (topS 13) 6
theorem sc_Calendar___and__ : FnScope ["self", "other"] ["self", "other"] (defScope s_Calendar___and__) := ⟨rfl, rfl, rfl, by decide +kernel, rfl, by decide +kernel, by decide +kernel⟩
abbrev s_Calendar___or__ : Stmt := inClass (topS 13) 7
theorem sc_Calendar___or__ : FnScope ["self", "other"] ["self", "other"] (defScope s_Calendar___or__) := ⟨rfl, rfl, rfl, by decide +kernel, rfl, by decide +kernel, by decide +kernel⟩
abbrev s_Calendar___sub__ : Stmt := inClass (topS 13) 8
theorem sc_Calendar___sub__ : FnScope ["self", "other"] ["self", "other"] (defScope s_Calendar___sub__) := ⟨rfl, rfl, rfl, by decide +kernel, rfl, by decide +kernel, by decide +kernel⟩
abbrev s_Calendar___xor__ : Stmt := inClass (topS 13) 9
theorem sc_Calendar___xor__ : FnScope ["self", "other"] ["self", "other"] (defScope s_Calendar___xor__) := ⟨rfl, rfl, rfl, by decide +kernel, rfl, by decide +kernel, by decide +kernel⟩
abbrev s_Calendar___str__ : Stmt := inClass (topS 13) 15
theorem sc_Calendar___str__ : FnScope ["self"] ["self"] (defScope s_Calendar___str__) := ⟨rfl, rfl, rfl, by decide +kernel, rfl, by decide +kernel, by decide +kernel⟩
abbrev s_is_whole : Stmt := topS 6
theorem sc_is_whole : FnScope ["value"] ["value"] (defScope s_is_whole) := ⟨rfl, rfl, rfl, by decide +kernel, rfl, by decide +kernel, by decide +kernel⟩
abbrev s_is_sequence : Stmt := topS 7
theorem sc_is_sequence : FnScope ["value"] ["value"] (defScope s_is_sequence) := ⟨rfl, rfl, rfl, by decide +kernel, rfl, by decide +kernel, by decide +kernel⟩
abbrev s__is_from_1 : Stmt := topS 14
theorem sc__is_from_1 : FnScope ["value"] ["value"] (defScope s__is_from_1) := ⟨rfl, rfl, rfl, by decide +kernel, rfl, by decide +kernel, by decide +kernel⟩
abbrev s__are_between : Stmt := topS 15
theorem sc__are_between : FnScope ["values", "low", "end", "value"] ["values", "low", "end"] (defScope s__are_between) := ⟨rfl, rfl, rfl, by decide +kernel, rfl, by decide +kernel, by decide +kernel⟩
abbrev s__ascending : Stmt := topS 16
theorem sc__ascending : FnScope ["values", "low", "end", "wanted", "value", "n"] ["values", "low", "end"] (defScope s__ascending) := ⟨rfl, rfl, rfl, by decide +kernel, rfl, by decide +kernel, by decide +kernel⟩
abbrev s__least_period : Stmt := topS 17
theorem sc__least_period : FnScope ["period", "rests", "wanted", "rest", "shorter"] ["period", "rests"] (defScope s__least_period) := ⟨rfl, rfl, rfl, by decide +kernel, rfl, by decide +kernel, by decide +kernel⟩
abbrev s__least_start : Stmt := topS 18
theorem sc__least_start : FnScope ["few", "start", "period", "rests", "early", "n", "late", "rest", "earlier"] ["few", "start", "period", "rests"] (defScope s__least_start) := ⟨rfl, rfl, rfl, by decide +kernel, rfl, by decide +kernel, by decide +kernel⟩
abbrev s__merged : Stmt := topS 19
theorem sc__merged : FnScope ["one", "other", "kept", "start", "period", "pairs", "pair"] ["one", "other", "kept"] (defScope s__merged) := ⟨rfl, rfl, rfl, by decide +kernel, rfl, by decide +kernel, by decide +kernel⟩
abbrev s__flags_of : Stmt := topS 20
theorem sc__flags_of : FnScope ["calendar", "end", "few", "n", "rests", "rest"] ["calendar", "end"] (defScope s__flags_of) := ⟨rfl, rfl, rfl, by decide +kernel, rfl, by decide +kernel, by decide +kernel⟩
abbrev s_calendar_from : Stmt := topS 21
theorem sc_calendar_from : FnScope ["flags", "period", "start", "few", "n", "rests"] ["flags", "period"] (defScope s_calendar_from) := ⟨rfl, rfl, rfl, by decide +kernel, rfl, by decide +kernel, by decide +kernel⟩
abbrev s__text : Stmt := topS 22
theorem sc__text : FnScope ["few", "start", "period", "rests", "front"] ["few", "start", "period", "rests"] (defScope s__text) := ⟨rfl, rfl, rfl, by decide +kernel, rfl, by decide +kernel, by decide +kernel⟩
abbrev s__spaced : Stmt := topS 23
theorem sc__spaced : FnScope ["numbers", "n"] ["numbers"] (defScope s__spaced) := ⟨rfl, rfl, rfl, by decide +kernel, rfl, by decide +kernel, by decide +kernel⟩
abbrev s__law_box : Stmt := topS 25
theorem sc__law_box : FnScope ["_law_script", "_law_k", "_law_cell", "_law_seed", "_law_wide"] ["_law_script", "_law_k"] (defScope s__law_box) := ⟨rfl, rfl, rfl, by decide +kernel, rfl, by decide +kernel, by decide +kernel⟩
abbrev s__law_take : Stmt := topS 26
theorem sc__law_take : FnScope ["_law_box_here", "_law_many", "_law_digit", "_law_near_here"] ["_law_box_here", "_law_many"] (defScope s__law_take) := ⟨rfl, rfl, rfl, by decide +kernel, rfl, by decide +kernel, by decide +kernel⟩
abbrev s__law_pick : Stmt := topS 27
theorem sc__law_pick : FnScope ["_law_box_here", "_law_some"] ["_law_box_here", "_law_some"] (defScope s__law_pick) := ⟨rfl, rfl, rfl, by decide +kernel, rfl, by decide +kernel, by decide +kernel⟩
abbrev s__law_raw : Stmt := topS 28
theorem sc__law_raw : FnScope ["_law_box_here", "_law_far", "_law_wide", "_law_start", "_law_period", "_law_few", "_law_turn", "_law_rests"] ["_law_box_here", "_law_far", "_law_wide"] (defScope s__law_raw) := ⟨rfl, rfl, rfl, by decide +kernel, rfl, by decide +kernel, by decide +kernel⟩
abbrev s__law_has : Stmt := topS 29
theorem sc__law_has : FnScope ["_law_raw_here", "_law_number", "_law_few", "_law_start", "_law_period", "_law_rests"] ["_law_raw_here", "_law_number"] (defScope s__law_has) := ⟨rfl, rfl, rfl, by decide +kernel, rfl, by decide +kernel, by decide +kernel⟩
abbrev s__law_least_form : Stmt := topS 30
theorem sc__law_least_form : FnScope ["_law_raw_here", "_law_few", "_law_start", "_law_period", "_law_rests", "_law_least", "_law_some", "_law_odd", "_law_rest", "_law_left", "_law_told", "_law_number"] ["_law_raw_here"] (defScope s__law_least_form) := ⟨rfl, rfl, rfl, by decide +kernel, rfl, by decide +kernel, by decide +kernel⟩
abbrev s__law_cal_text : Stmt := topS 31
theorem sc__law_cal_text : FnScope ["_law_form", "_law_few", "_law_start", "_law_period", "_law_rests", "_law_text", "_law_one", "_law_tail"] ["_law_form"] (defScope s__law_cal_text) := ⟨rfl, rfl, rfl, by decide +kernel, rfl, by decide +kernel, by decide +kernel⟩
abbrev s__law_cal_of : Stmt := topS 32
theorem sc__law_cal_of : FnScope ["_law_raw_here"] ["_law_raw_here"] (defScope s__law_cal_of) := ⟨rfl, rfl, rfl, by decide +kernel, rfl, by decide +kernel, by decide +kernel⟩
abbrev s__law_common : Stmt := topS 33
theorem sc__law_common : FnScope ["_law_one", "_law_other", "_law_found"] ["_law_one", "_law_other"] (defScope s__law_common) := ⟨rfl, rfl, rfl, by decide +kernel, rfl, by decide +kernel, by decide +kernel⟩
abbrev s__law_made_by : Stmt := topS 34
theorem sc__law_made_by : FnScope ["_law_one", "_law_other", "_law_is_in", "_law_start", "_law_period", "_law_found", "_law_at", "_law_rests"] ["_law_one", "_law_other", "_law_is_in"] (defScope s__law_made_by) := ⟨rfl, rfl, rfl, by decide +kernel, rfl, by decide +kernel, by decide +kernel⟩
abbrev s__law_near : Stmt := topS 35
theorem sc__law_near : FnScope ["_law_box_here", "_law_raw_here", "_law_few", "_law_start", "_law_period", "_law_rests"] ["_law_box_here", "_law_raw_here"] (defScope s__law_near) := ⟨rfl, rfl, rfl, by decide +kernel, rfl, by decide +kernel, by decide +kernel⟩
abbrev s__law_dues : Stmt := topS 36
theorem sc__law_dues : FnScope ["_law_one", "_law_other", "_law_found", "_law_raw_here"] ["_law_one", "_law_other"] (defScope s__law_dues) := ⟨rfl, rfl, rfl, by decide +kernel, rfl, by decide +kernel, by decide +kernel⟩
abbrev s_law : Stmt := topS 37
theorem sc_law : FnScope ["_law_script", "_law_k", "_law_box_here", "_law_turn", "_law_one", "_law_other", "_law_p", "_law_q", "_law_due", "_law_made", "_law_kept", "_law_every", "_law_less"] ["_law_script"] (defScope s_law) := ⟨rfl, rfl, rfl, by decide +kernel, rfl, by decide +kernel, by decide +kernel⟩
/-- what the top has written -/
structure Txt (K : PySem.W.Frag) (mg : Str → Option Value) where
  c_Calendar : Addr
  m_Calendar : mg "Calendar" = some (.ref c_Calendar)
  sf_Calendar : PySem.W.selfFirst K c_Calendar = true
  m2_Calendar : mro2 K c_Calendar = true
  iq_Calendar_and : PySem.W.findIn K (.ref c_Calendar) "__iand__" = some none
  io_Calendar_and : PySem.W.findIn K (.type "object") "__iand__" = some none
  iq_Calendar_or : PySem.W.findIn K (.ref c_Calendar) "__ior__" = some none
  io_Calendar_or : PySem.W.findIn K (.type "object") "__ior__" = some none
  iq_Calendar_sub : PySem.W.findIn K (.ref c_Calendar) "__isub__" = some none
  io_Calendar_sub : PySem.W.findIn K (.type "object") "__isub__" = some none
  iq_Calendar_xor : PySem.W.findIn K (.ref c_Calendar) "__ixor__" = some none
  io_Calendar_xor : PySem.W.findIn K (.type "object") "__ixor__" = some none
  C_Calendar : Cls K c_Calendar
  n_Calendar_period : NoAttr K c_Calendar "period"
  n_Calendar_rests : NoAttr K c_Calendar "rests"
  n_Calendar_start : NoAttr K c_Calendar "start"
  n_Calendar_few : NoAttr K c_Calendar "few"
  I_Calendar : OwnI K c_Calendar
  N_Calendar : OwnN K c_Calendar
  e_Calendar___init___0 : Addr
  e_Calendar___init___3 : Addr
  a_Calendar___init__ : Addr
  d_Calendar___init__ : FuncData
  F_Calendar___init__ : FunD K "__init__" "Calendar.__init__" (defArgs s_Calendar___init__) (defBody s_Calendar___init__) (defScope s_Calendar___init__) [(.ref e_Calendar___init___0), (.int 1), (.int 1), (.ref e_Calendar___init___3)] [] a_Calendar___init__ d_Calendar___init__
  b_Calendar___init__ : Binds K d_Calendar___init__ ["self", "few", "start", "period", "rests"] []
  k_Calendar___init__ : PySem.W.keepIn K (.ref a_Calendar___init__) = true
  D_Calendar___init__ : ∃ ds, Vals [.ref e_Calendar___init___0, .int 1, .int 1, .ref e_Calendar___init___3] ds ∧ Binds K d_Calendar___init__ ["self", "few", "start", "period", "rests"] ds
  D1_Calendar___init__ : ∃ ds, Vals [.int 1, .int 1, .ref e_Calendar___init___3] ds ∧ Binds K d_Calendar___init__ ["self", "few", "start", "period", "rests"] ds
  D2_Calendar___init__ : ∃ ds, Vals [.int 1, .ref e_Calendar___init___3] ds ∧ Binds K d_Calendar___init__ ["self", "few", "start", "period", "rests"] ds
  D3_Calendar___init__ : ∃ ds, Vals [.ref e_Calendar___init___3] ds ∧ Binds K d_Calendar___init__ ["self", "few", "start", "period", "rests"] ds
  E_Calendar___init___0 : ∀ H, SqT K H e_Calendar___init___0 []
  E_Calendar___init___3 : ∀ H, SqT K H e_Calendar___init___3 []
  M_Calendar : Mk K c_Calendar a_Calendar___init__
  a_Calendar___invert__ : Addr
  d_Calendar___invert__ : FuncData
  F_Calendar___invert__ : Fun K "__invert__" "Calendar.__invert__" s_Calendar___invert__ a_Calendar___invert__ d_Calendar___invert__
  b_Calendar___invert__ : Binds K d_Calendar___invert__ ["self"] []
  k_Calendar___invert__ : PySem.W.keepIn K (.ref a_Calendar___invert__) = true
  M_Calendar___invert__ : Meth K c_Calendar "__invert__" a_Calendar___invert__
  a_Calendar___eq__ : Addr
  d_Calendar___eq__ : FuncData
  F_Calendar___eq__ : Fun K "__eq__" "Calendar.__eq__" s_Calendar___eq__ a_Calendar___eq__ d_Calendar___eq__
  b_Calendar___eq__ : Binds K d_Calendar___eq__ ["self", "other"] []
  k_Calendar___eq__ : PySem.W.keepIn K (.ref a_Calendar___eq__) = true
  O_Calendar : OwnQ K c_Calendar a_Calendar___eq__
  a_Calendar___and__ : Addr
  d_Calendar___and__ : FuncData
  F_Calendar___and__ : Fun K "__and__" "Calendar.__and__" s_Calendar___and__ a_Calendar___and__ d_Calendar___and__
  b_Calendar___and__ : Binds K d_Calendar___and__ ["self", "other"] []
  k_Calendar___and__ : PySem.W.keepIn K (.ref a_Calendar___and__) = true
  M_Calendar___and__ : Meth K c_Calendar "__and__" a_Calendar___and__
  a_Calendar___or__ : Addr
  d_Calendar___or__ : FuncData
  F_Calendar___or__ : Fun K "__or__" "Calendar.__or__" s_Calendar___or__ a_Calendar___or__ d_Calendar___or__
  b_Calendar___or__ : Binds K d_Calendar___or__ ["self", "other"] []
  k_Calendar___or__ : PySem.W.keepIn K (.ref a_Calendar___or__) = true
  M_Calendar___or__ : Meth K c_Calendar "__or__" a_Calendar___or__
  a_Calendar___sub__ : Addr
  d_Calendar___sub__ : FuncData
  F_Calendar___sub__ : Fun K "__sub__" "Calendar.__sub__" s_Calendar___sub__ a_Calendar___sub__ d_Calendar___sub__
  b_Calendar___sub__ : Binds K d_Calendar___sub__ ["self", "other"] []
  k_Calendar___sub__ : PySem.W.keepIn K (.ref a_Calendar___sub__) = true
  M_Calendar___sub__ : Meth K c_Calendar "__sub__" a_Calendar___sub__
  a_Calendar___xor__ : Addr
  d_Calendar___xor__ : FuncData
  F_Calendar___xor__ : Fun K "__xor__" "Calendar.__xor__" s_Calendar___xor__ a_Calendar___xor__ d_Calendar___xor__
  b_Calendar___xor__ : Binds K d_Calendar___xor__ ["self", "other"] []
  k_Calendar___xor__ : PySem.W.keepIn K (.ref a_Calendar___xor__) = true
  M_Calendar___xor__ : Meth K c_Calendar "__xor__" a_Calendar___xor__
  a_Calendar___str__ : Addr
  d_Calendar___str__ : FuncData
  F_Calendar___str__ : Fun K "__str__" "Calendar.__str__" s_Calendar___str__ a_Calendar___str__ d_Calendar___str__
  b_Calendar___str__ : Binds K d_Calendar___str__ ["self"] []
  k_Calendar___str__ : PySem.W.keepIn K (.ref a_Calendar___str__) = true
  M_Calendar___str__ : Meth K c_Calendar "__str__" a_Calendar___str__
  A_KEPT_BY_AND : Addr
  m_KEPT_BY_AND : mg "KEPT_BY_AND" = some (.ref A_KEPT_BY_AND)
  D_KEPT_BY_AND : ∀ H, Dp K H (.ref A_KEPT_BY_AND) (.tuple [.tuple [.bool true, .bool true]])
  A_KEPT_BY_OR : Addr
  m_KEPT_BY_OR : mg "KEPT_BY_OR" = some (.ref A_KEPT_BY_OR)
  D_KEPT_BY_OR : ∀ H, Dp K H (.ref A_KEPT_BY_OR) (.tuple [.tuple [.bool true, .bool true], .tuple [.bool true, .bool false], .tuple [.bool false, .bool true]])
  A_KEPT_BY_MINUS : Addr
  m_KEPT_BY_MINUS : mg "KEPT_BY_MINUS" = some (.ref A_KEPT_BY_MINUS)
  D_KEPT_BY_MINUS : ∀ H, Dp K H (.ref A_KEPT_BY_MINUS) (.tuple [.tuple [.bool true, .bool false]])
  A_KEPT_BY_XOR : Addr
  m_KEPT_BY_XOR : mg "KEPT_BY_XOR" = some (.ref A_KEPT_BY_XOR)
  D_KEPT_BY_XOR : ∀ H, Dp K H (.ref A_KEPT_BY_XOR) (.tuple [.tuple [.bool true, .bool false], .tuple [.bool false, .bool true]])
  a_is_whole : Addr
  d_is_whole : FuncData
  F_is_whole : Fun K "is_whole" "is_whole" s_is_whole a_is_whole d_is_whole
  b_is_whole : Binds K d_is_whole ["value"] []
  k_is_whole : PySem.W.keepIn K (.ref a_is_whole) = true
  m_is_whole : mg "is_whole" = some (.ref a_is_whole)
  a_is_sequence : Addr
  d_is_sequence : FuncData
  F_is_sequence : Fun K "is_sequence" "is_sequence" s_is_sequence a_is_sequence d_is_sequence
  b_is_sequence : Binds K d_is_sequence ["value"] []
  k_is_sequence : PySem.W.keepIn K (.ref a_is_sequence) = true
  m_is_sequence : mg "is_sequence" = some (.ref a_is_sequence)
  a__is_from_1 : Addr
  d__is_from_1 : FuncData
  F__is_from_1 : Fun K "_is_from_1" "_is_from_1" s__is_from_1 a__is_from_1 d__is_from_1
  b__is_from_1 : Binds K d__is_from_1 ["value"] []
  k__is_from_1 : PySem.W.keepIn K (.ref a__is_from_1) = true
  m__is_from_1 : mg "_is_from_1" = some (.ref a__is_from_1)
  a__are_between : Addr
  d__are_between : FuncData
  F__are_between : Fun K "_are_between" "_are_between" s__are_between a__are_between d__are_between
  b__are_between : Binds K d__are_between ["values", "low", "end"] []
  k__are_between : PySem.W.keepIn K (.ref a__are_between) = true
  m__are_between : mg "_are_between" = some (.ref a__are_between)
  a__ascending : Addr
  d__ascending : FuncData
  F__ascending : Fun K "_ascending" "_ascending" s__ascending a__ascending d__ascending
  b__ascending : Binds K d__ascending ["values", "low", "end"] []
  k__ascending : PySem.W.keepIn K (.ref a__ascending) = true
  m__ascending : mg "_ascending" = some (.ref a__ascending)
  a__least_period : Addr
  d__least_period : FuncData
  F__least_period : Fun K "_least_period" "_least_period" s__least_period a__least_period d__least_period
  b__least_period : Binds K d__least_period ["period", "rests"] []
  k__least_period : PySem.W.keepIn K (.ref a__least_period) = true
  m__least_period : mg "_least_period" = some (.ref a__least_period)
  a__least_start : Addr
  d__least_start : FuncData
  F__least_start : Fun K "_least_start" "_least_start" s__least_start a__least_start d__least_start
  b__least_start : Binds K d__least_start ["few", "start", "period", "rests"] []
  k__least_start : PySem.W.keepIn K (.ref a__least_start) = true
  m__least_start : mg "_least_start" = some (.ref a__least_start)
  a__merged : Addr
  d__merged : FuncData
  F__merged : Fun K "_merged" "_merged" s__merged a__merged d__merged
  b__merged : Binds K d__merged ["one", "other", "kept"] []
  k__merged : PySem.W.keepIn K (.ref a__merged) = true
  m__merged : mg "_merged" = some (.ref a__merged)
  a__flags_of : Addr
  d__flags_of : FuncData
  F__flags_of : Fun K "_flags_of" "_flags_of" s__flags_of a__flags_of d__flags_of
  b__flags_of : Binds K d__flags_of ["calendar", "end"] []
  k__flags_of : PySem.W.keepIn K (.ref a__flags_of) = true
  m__flags_of : mg "_flags_of" = some (.ref a__flags_of)
  a_calendar_from : Addr
  d_calendar_from : FuncData
  F_calendar_from : Fun K "calendar_from" "calendar_from" s_calendar_from a_calendar_from d_calendar_from
  b_calendar_from : Binds K d_calendar_from ["flags", "period"] []
  k_calendar_from : PySem.W.keepIn K (.ref a_calendar_from) = true
  m_calendar_from : mg "calendar_from" = some (.ref a_calendar_from)
  a__text : Addr
  d__text : FuncData
  F__text : Fun K "_text" "_text" s__text a__text d__text
  b__text : Binds K d__text ["few", "start", "period", "rests"] []
  k__text : PySem.W.keepIn K (.ref a__text) = true
  m__text : mg "_text" = some (.ref a__text)
  a__spaced : Addr
  d__spaced : FuncData
  F__spaced : Fun K "_spaced" "_spaced" s__spaced a__spaced d__spaced
  b__spaced : Binds K d__spaced ["numbers"] []
  k__spaced : PySem.W.keepIn K (.ref a__spaced) = true
  m__spaced : mg "_spaced" = some (.ref a__spaced)
  a__law_box : Addr
  d__law_box : FuncData
  F__law_box : Fun K "_law_box" "_law_box" s__law_box a__law_box d__law_box
  b__law_box : Binds K d__law_box ["_law_script", "_law_k"] []
  k__law_box : PySem.W.keepIn K (.ref a__law_box) = true
  m__law_box : mg "_law_box" = some (.ref a__law_box)
  a__law_take : Addr
  d__law_take : FuncData
  F__law_take : Fun K "_law_take" "_law_take" s__law_take a__law_take d__law_take
  b__law_take : Binds K d__law_take ["_law_box_here", "_law_many"] []
  k__law_take : PySem.W.keepIn K (.ref a__law_take) = true
  m__law_take : mg "_law_take" = some (.ref a__law_take)
  a__law_pick : Addr
  d__law_pick : FuncData
  F__law_pick : Fun K "_law_pick" "_law_pick" s__law_pick a__law_pick d__law_pick
  b__law_pick : Binds K d__law_pick ["_law_box_here", "_law_some"] []
  k__law_pick : PySem.W.keepIn K (.ref a__law_pick) = true
  m__law_pick : mg "_law_pick" = some (.ref a__law_pick)
  a__law_raw : Addr
  d__law_raw : FuncData
  F__law_raw : Fun K "_law_raw" "_law_raw" s__law_raw a__law_raw d__law_raw
  b__law_raw : Binds K d__law_raw ["_law_box_here", "_law_far", "_law_wide"] []
  k__law_raw : PySem.W.keepIn K (.ref a__law_raw) = true
  m__law_raw : mg "_law_raw" = some (.ref a__law_raw)
  a__law_has : Addr
  d__law_has : FuncData
  F__law_has : Fun K "_law_has" "_law_has" s__law_has a__law_has d__law_has
  b__law_has : Binds K d__law_has ["_law_raw_here", "_law_number"] []
  k__law_has : PySem.W.keepIn K (.ref a__law_has) = true
  m__law_has : mg "_law_has" = some (.ref a__law_has)
  a__law_least_form : Addr
  d__law_least_form : FuncData
  F__law_least_form : Fun K "_law_least_form" "_law_least_form" s__law_least_form a__law_least_form d__law_least_form
  b__law_least_form : Binds K d__law_least_form ["_law_raw_here"] []
  k__law_least_form : PySem.W.keepIn K (.ref a__law_least_form) = true
  m__law_least_form : mg "_law_least_form" = some (.ref a__law_least_form)
  a__law_cal_text : Addr
  d__law_cal_text : FuncData
  F__law_cal_text : Fun K "_law_cal_text" "_law_cal_text" s__law_cal_text a__law_cal_text d__law_cal_text
  b__law_cal_text : Binds K d__law_cal_text ["_law_form"] []
  k__law_cal_text : PySem.W.keepIn K (.ref a__law_cal_text) = true
  m__law_cal_text : mg "_law_cal_text" = some (.ref a__law_cal_text)
  a__law_cal_of : Addr
  d__law_cal_of : FuncData
  F__law_cal_of : Fun K "_law_cal_of" "_law_cal_of" s__law_cal_of a__law_cal_of d__law_cal_of
  b__law_cal_of : Binds K d__law_cal_of ["_law_raw_here"] []
  k__law_cal_of : PySem.W.keepIn K (.ref a__law_cal_of) = true
  m__law_cal_of : mg "_law_cal_of" = some (.ref a__law_cal_of)
  a__law_common : Addr
  d__law_common : FuncData
  F__law_common : Fun K "_law_common" "_law_common" s__law_common a__law_common d__law_common
  b__law_common : Binds K d__law_common ["_law_one", "_law_other"] []
  k__law_common : PySem.W.keepIn K (.ref a__law_common) = true
  m__law_common : mg "_law_common" = some (.ref a__law_common)
  a__law_made_by : Addr
  d__law_made_by : FuncData
  F__law_made_by : Fun K "_law_made_by" "_law_made_by" s__law_made_by a__law_made_by d__law_made_by
  b__law_made_by : Binds K d__law_made_by ["_law_one", "_law_other", "_law_is_in"] []
  k__law_made_by : PySem.W.keepIn K (.ref a__law_made_by) = true
  m__law_made_by : mg "_law_made_by" = some (.ref a__law_made_by)
  a__law_near : Addr
  d__law_near : FuncData
  F__law_near : Fun K "_law_near" "_law_near" s__law_near a__law_near d__law_near
  b__law_near : Binds K d__law_near ["_law_box_here", "_law_raw_here"] []
  k__law_near : PySem.W.keepIn K (.ref a__law_near) = true
  m__law_near : mg "_law_near" = some (.ref a__law_near)
  a__law_dues : Addr
  d__law_dues : FuncData
  F__law_dues : Fun K "_law_dues" "_law_dues" s__law_dues a__law_dues d__law_dues
  b__law_dues : Binds K d__law_dues ["_law_one", "_law_other"] []
  k__law_dues : PySem.W.keepIn K (.ref a__law_dues) = true
  tc__law_dues : Addr
  tp__law_dues : Addr
  cd__law_dues : d__law_dues.code = .ref tc__law_dues
  m__law_dues : mg "_law_dues" = some (.ref a__law_dues)
  a_law : Addr
  d_law : FuncData
  F_law : Fun K "law" "law" s_law a_law d_law
  b_law : Binds K d_law ["_law_script"] []
  k_law : PySem.W.keepIn K (.ref a_law) = true
  tc_law : Addr
  tp_law : Addr
  cd_law : d_law.code = .ref tc_law
  m_law : mg "law" = some (.ref a_law)
  td__law_dues_law : tp__law_dues ≠ tp_law
  z_abs : mg "abs" = none
  z_all : mg "all" = none
  z_bool : mg "bool" = none
  z_int : mg "int" = none
  z_isinstance : mg "isinstance" = none
  z_len : mg "len" = none
  z_list : mg "list" = none
  z_max : mg "max" = none
  z_min : mg "min" = none
  z_range : mg "range" = none
  z_set : mg "set" = none
  z_sorted : mg "sorted" = none
  z_str : mg "str" = none
  z_tuple : mg "tuple" = none
  z_zip : mg "zip" = none
  m_lcm : mg "lcm" = some (.builtin "math.lcm")
/-- the tables of code objects that the law's lambdas fill -/
def tabsT {K : PySem.W.Frag} {mg : Str → Option Value} (T : Txt K mg) : List NdefX.NTab := [(T.tp__law_dues, fun _ _ => lamQ "_law_dues"), (T.tp_law, fun _ _ => lamQ "law")]
section
variable {P : Program} {w : World} {K : PySem.W.Frag} {mg : Str → Option Value} {base : Heap}
def spTake : Sp := fun vs H Q _ => ∃ (b : Addr) (m : Int), vs = [.ref b, .int m] ∧ Box H b ∧ 0 < m ∧ m < 2 ^ 40 ∧
  ∀ (r : Int) (H' : Hp), 0 ≤ r → r < m → Box H' b → But b H H' → Q (.int r) H'
theorem ok_take (T : Txt K mg) : FnOk P w K mg base CX0 1 T.a__law_take T.d__law_take ["_law_box_here", "_law_many"] spTake := by
  refine T.F__law_take.ok sc__law_take (fun vs H Q E h => ?_) (fun cdv A outer s H vs Q E hr h => ?_)
  · obtain ⟨b, m, rfl, _⟩ := h
    rfl
  · obtain ⟨b, m, rfl, ⟨x, y, z, hb, ⟨x0, y1, y2⟩⟩, m0, m1, k⟩ := h
    have nd := sc__law_take.nd
    refine ⟨_, (pss_cons (ps_if (pt_cmpR op_gt (pe_ix ix_list (pv 0) pe_int (fun _ _ => rfl)) pe_int (nomark _)) (pss_cons (ps_set (i := 2) nd rfl (Or.inl rfl) (pe_op op_mod (pe_callTy call_int1 (by rfl) T.z_int (by decide +kernel) (pa_cons (pe_ix ix_list (pv 0) pe_int (fun _ _ => rfl)) pa_nil)) (pv 1)))
    (pss_cons (ps_asg (pe_op op_fdivW (pe_ix ix_list (pv 0) pe_int (fun _ _ => rfl)) (pv 1)) (pg_sub (pv 0) pe_int set_list))
    (pss_one (ps_ret (pv 2))))) pss_nil)
    (pss_cons (ps_asg (pe_op op_add (pe_ix ix_list (pv 0) pe_int (fun _ _ => rfl)) pe_int) (pg_sub (pv 0) pe_int set_list))
    (pss_cons (ps_set (i := 3) nd rfl (Or.inl rfl) (pe_op op_mod (pe_callTy call_int1 (by rfl) T.z_int (by decide +kernel) (pa_cons (pe_op op_mul (pe_op op_add (pe_ix ix_list (pv 0) pe_int (fun _ _ => rfl)) (pe_op op_mul pe_int (pe_ix ix_list (pv 0) pe_int (fun _ _ => rfl)))) pe_int) pa_nil)) pe_int))
    (pss_cons (ps_asg (pe_op op_add (pe_op op_mod (pe_callTy call_int1 (by rfl) T.z_int (by decide +kernel) (pa_cons (pe_op op_add (pe_op op_mul (pv 3) pe_int) pe_int) pa_nil)) pe_int) pe_int) (pg_sub (pv 0) pe_int set_list))
    (pss_one (ps_ret (pe_op op_mod (pe_callTy call_int1 (by rfl) T.z_int (by decide +kernel) (pa_cons (pe_op op_fdiv (pe_op op_add (pe_op op_mul (pv 3) pe_int) (pe_ix ix_list (pv 0) pe_int (fun _ _ => rfl))) pe_int) pa_nil)) (pv 1)))))))), ?_⟩
    repeat walk_at "st"
    refine ifB (fun e => ?_) (fun e => ?_)
    · repeat walk_at "st"
      exact k _ _ (Int.emod_nonneg _ (by omega)) (Int.emod_lt_of_pos _ m0) ⟨x / m, y, z, upd_same, Int.ediv_nonneg x0 (by omega), y1, y2⟩ (But.refl _ _).upd
    · repeat walk_at "st"
      exact k _ _ (Int.emod_nonneg _ (by omega)) (Int.emod_lt_of_pos _ m0) ⟨_, _, _, upd_same, x0, by omega, by omega⟩ (((But.refl _ _).upd).upd)
local macro_rules | `(tactic| walk_at "boxtail") => `(tactic| (
  repeat walk_at "st"
  refine ifB (fun e9 => ?_) (fun e9 => ?_)))
/-- the box of a cell -/
def spBox (K : PySem.W.Frag) : Sp := fun vs H Q _ => ∃ (a : Addr) (ns : List Int) (i : Int), vs = [.ref a, .int i] ∧ SqL K H a (ns.map V.int) ∧ 0 ≤ i ∧ i < 1000 ∧
  ∀ (H' : Hp) (p : Addr), Same H H' → H p = none → Box H' p → Q (.ref p) H'
theorem ok_box (T : Txt K mg) : FnOk P w K mg base CX0 1 T.a__law_box T.d__law_box ["_law_script", "_law_k"] (spBox K) := by
  refine T.F__law_box.ok sc__law_box (fun vs H Q E h => ?_) (fun cdv A outer s H vs Q E hr h => ?_)
  · obtain ⟨a, ns, i, rfl, _⟩ := h
    rfl
  · obtain ⟨a, ns, i, rfl, hS, i0, i1, k⟩ := h
    have nd := sc__law_box.nd
    refine ⟨_, (pss_cons (ps_set (i := 2) nd rfl (Or.inl rfl) (pe_op op_add (pe_op op_mul pe_int (pv 1)) pe_int))
    (pss_cons (ps_if (pt_cmpR op_lt (pv 1) (pe_callB call_len_seq (by rfl) T.z_len (by decide +kernel) (pa_cons (pv 0) pa_nil)) (nomark _)) (pss_one (ps_set (i := 2) nd rfl (Or.inl rfl) (pe_callB call_abs (by rfl) T.z_abs (by decide +kernel) (pa_cons (pe_callTy call_int1 (by rfl) T.z_int (by decide +kernel) (pa_cons (pe_ix ix_list (pv 0) (pv 1) (fun _ _ => rfl)) pa_nil)) pa_nil)))) (pss_one (ps_if (pt_cmpR op_gt (pe_callB call_len_seq (by rfl) T.z_len (by decide +kernel) (pa_cons (pv 0) pa_nil)) pe_int (nomark _)) (pss_one (ps_set (i := 2) nd rfl (Or.inl rfl) (pe_op op_add (pv 2) (pe_op op_mul (pe_op op_mod (pe_callTy call_int1 (by rfl) T.z_int (by decide +kernel) (pa_cons (pe_ix ix_list (pv 0) (pe_op op_mod (pe_callTy call_int1 (by rfl) T.z_int (by decide +kernel) (pa_cons (pv 1) pa_nil)) (pe_callB call_len_seq (by rfl) T.z_len (by decide +kernel) (pa_cons (pv 0) pa_nil))) (fun _ _ => rfl)) pa_nil)) pe_int) pe_int)))) pss_nil)))
    (pss_cons (ps_set (i := 3) nd rfl (Or.inl rfl) (pe_op op_add (pe_op op_mod (pe_callTy call_int1 (by rfl) T.z_int (by decide +kernel) (pa_cons (pe_op op_add (pe_op op_add (pe_op op_mul (pe_op op_mod (pe_callTy call_int1 (by rfl) T.z_int (by decide +kernel) (pa_cons (pv 2) pa_nil)) pe_int) pe_int) (pe_op op_mul pe_int (pv 1))) pe_int) pa_nil)) pe_int) pe_int))
    (pss_cons (ps_set (i := 4) nd rfl (Or.inl rfl) (pe_ifExp (pt_cmpR op_ge (pv 2) (pe_op op_pow pe_int pe_int) (nomark _)) (pv 2) pe_int))
    (pss_one (ps_ret (pe_lst (pa_cons (pv 4) (pa_cons (pv 3) (pa_cons pe_int pa_nil)))))))))), ?_⟩
    repeat walk_at "st"
    refine ifB (fun e => ?_) (fun e => ?_)
    · have e := of_decide_eq_true e
      rw [List.length_map] at e
      obtain ⟨z, hz⟩ := ints_at i0 e
      refine ⟨_, rfl, _, rfl, _, _, _, _, rfl, rfl, hS, hz, ?_⟩
      have c0 := natAbs_abs (i := z)
      walk_at "boxtail"
      all_goals
        repeat walk_at "st"
        refine ⟨szL (Nat.le_of_ble_eq_true rfl), fun q hq => ?_⟩
        exact k _ _ (same_new (by assumption)) (by assumption) ⟨_, _, _, upd_same, by first | exact c0 | decide, by walk_at "om", by walk_at "om"⟩
    · repeat walk_at "st"
      refine ifB (fun e1 => ?_) (fun e1 => ?_)
      · have e1 := of_decide_eq_true e1
        repeat walk_at "st"
        rw [List.length_map] at e1
        obtain ⟨z, hz⟩ := ints_at (ns := ns) (k := i % ((ns.map V.int).length : Nat)) (Int.emod_nonneg _ (by rw [List.length_map]; omega)) (by rw [List.length_map]; exact Int.emod_lt_of_pos _ (by omega))
        refine ⟨_, _, _, _, rfl, rfl, hS, hz, ?_⟩
        walk_at "boxtail"
        all_goals
          repeat walk_at "st"
          refine ⟨szL (Nat.le_of_ble_eq_true rfl), fun q hq => ?_⟩
          exact k _ _ (same_new (by assumption)) (by assumption) ⟨_, _, _, upd_same, by walk_at "om", by walk_at "om", by walk_at "om"⟩
      · walk_at "boxtail"
        all_goals
          repeat walk_at "st"
          refine ⟨szL (Nat.le_of_ble_eq_true rfl), fun q hq => ?_⟩
          exact k _ _ (same_new (by assumption)) (by assumption) ⟨_, _, _, upd_same, by walk_at "om", by walk_at "om", by walk_at "om"⟩

/-- one of the items of a list -/
def spPick : Sp := fun vs H Q _ => ∃ (b L : Addr) (xs : List V), vs = [.ref b, .ref L] ∧ Box H b ∧ L ≠ b ∧ H L = some (.lst xs) ∧ 0 < xs.length ∧ xs.length < 1000 ∧
  ∀ (v : V) (H' : Hp), v ∈ xs → Box H' b → But b H H' → Q v H'
theorem ok_pick (T : Txt K mg) : FnOk P w K mg base CX0 2 T.a__law_pick T.d__law_pick ["_law_box_here", "_law_some"] spPick := by
  have G__law_take : FnOk P w K mg base CX0 1 T.a__law_take T.d__law_take ["_law_box_here", "_law_many"] spTake := ok_take T
  refine T.F__law_pick.ok sc__law_pick (fun vs H Q E h => ?_) (fun cdv A outer s H vs Q E hr h => ?_)
  · obtain ⟨b, L, xs, rfl, _⟩ := h
    rfl
  · obtain ⟨b, L, xs, rfl, hB, hne, hL, l0, l1, k⟩ := h
    have nd := sc__law_pick.nd
    refine ⟨_, (pss_one (ps_ret (pe_ix ix_list (pv 1) (pe_call G__law_take (hr.mono (by first | decide | omega)) (by rfl) T.m__law_take T.k__law_take T.b__law_take .nil pass0 (pa_cons (pv 0) (pa_cons (pe_callB call_len_seq (by rfl) T.z_len (by decide +kernel) (pa_cons (pv 1) pa_nil)) pa_nil))) (fun _ _ => rfl)))), ?_⟩
    repeat walk_at "st"
    refine ⟨b, _, rfl, hB, by omega, by omega, fun r H' r0 r1 B' k' => ?_⟩
    obtain ⟨v, hv, hz⟩ := mem_at r0 r1
    exact ⟨_, _, _, _, rfl, rfl, SqL.of (k' _ _ hne hL), hz, k v H' hv B' k'⟩

theorem ok_whole (T : Txt K mg) : FnOk P w K mg base CX0 1 T.a_is_whole T.d_is_whole ["value"] spWhole := by
  refine T.F_is_whole.ok sc_is_whole (fun vs H Q E h => ?_) (fun cdv A outer s H vs Q E hr h => ?_)
  · obtain ⟨b, v, rfl, _⟩ := h
    rfl
  · obtain ⟨b, v, rfl, hv, k⟩ := h
    have nd := sc_is_whole.nd
    refine ⟨_, (pss_one (ps_ret (pe_and (pe_callB call_isi (by rfl) T.z_isinstance (by decide +kernel) (pa_cons (pv 0) (pa_cons (pe_bltn (v := .ty "int") (u := .type "int") (by rfl) T.z_int (by decide +kernel) (by exact rfl)) pa_nil))) (pe_one (pe_not (pe_callB call_isi (by rfl) T.z_isinstance (by decide +kernel) (pa_cons (pv 0) (pa_cons (pe_bltn (v := .ty "bool") (u := .type "bool") (by rfl) T.z_bool (by decide +kernel) (by exact rfl)) pa_nil)))))))), ?_⟩
    obtain ⟨t, ty, ki, kb⟩ := hv.ty (K := K)
    refine ⟨_, rfl, _, _, _, _, _, rfl, .ty _, ty, kit_ty ki, _, rfl, ifB (fun e => ?_) (fun e => ?_)⟩
    · refine ⟨_, rfl, _, _, _, _, _, rfl, .ty _, ty, kit_ty kb, _, rfl, ?_⟩
      rw [isInt_bl e]
      exact k
    · show Q (.bl false) H
      rw [isInt_no e]
      exact k
theorem tyx_same {K : PySem.W.Frag} {H H' : Hp} {v : V} {t : Value} (s : Same H H') (h : TyX K H v t) : TyX K H' v t := by
  cases h with
  | base b =>
    cases b with
    | non => exact .base .non
    | bl x => exact .base (.bl x)
    | int x => exact .base (.int x)
    | str x => exact .base (.str x)
    | flt x => exact .base (.flt x)
    | lst e => exact .base (.lst (s _ _ e))
    | frz e => exact .base (.frz (s _ _ e))
    | tup e => exact .base (.tup (s _ _ e))
    | dK e => exact .base (.dK (s _ _ e))
    | dT e => exact .base (.dT (s _ _ e))
    | ins e c ha hn ht hm => exact .base (.ins (s _ _ e) c ha hn ht hm)
  | byt x => exact .byt x
  | set e => exact .set (s _ _ e)
  | kList e c => exact .kList e c
  | kTuple e c => exact .kTuple e c
  | kDict e c => exact .kDict e c
  | fTuple e => exact .fTuple (s _ _ e)
  | fDict e => exact .fDict (s _ _ e)
/-- whether a value is a list or a tuple -/
def spSeq (K : PySem.W.Frag) : Sp := fun vs H Q _ => ∃ (v : V) (t : Value) (r : Bool), vs = [v] ∧ TyX K H v t ∧ PySem.W.kitAny K t [.type "list", .type "tuple"] = some r ∧ ∀ H', Same H H' → Q (.bl r) H'
theorem ok_seq (T : Txt K mg) : FnOk P w K mg base CX0 1 T.a_is_sequence T.d_is_sequence ["value"] (spSeq K) := by
  refine T.F_is_sequence.ok sc_is_sequence (fun vs H Q E h => ?_) (fun cdv A outer s H vs Q E hr h => ?_)
  · obtain ⟨v, t, r, rfl, _⟩ := h
    rfl
  · obtain ⟨v, t, r, rfl, ty, kt, k⟩ := h
    have nd := sc_is_sequence.nd
    refine ⟨_, (pss_one (ps_ret (pe_callB call_isiT (by rfl) T.z_isinstance (by decide +kernel) (pa_cons (pv 0) (pa_cons (pe_tup (pa_cons (pe_bltn (v := .ty "list") (u := .type "list") (by rfl) T.z_list (by decide +kernel) (by exact rfl)) (pa_cons (pe_bltn (v := .ty "tuple") (u := .type "tuple") (by rfl) T.z_tuple (by decide +kernel) (by exact rfl)) pa_nil))) pa_nil))))), ?_⟩
    refine ⟨_, rfl, szL (Nat.le_of_ble_eq_true rfl), fun p np => ?_⟩
    have z : TyX K (upd H p (.tup [.ty "list", .ty "tuple"])) v t := tyx_same (same_new np) ty
    exact ⟨v, p, _, t, _, r, rfl, upd_same, .cons (.ty _) (.cons (.ty _) .nil), z, kt, k _ (same_new np)⟩
theorem kit_seq_list {K : PySem.W.Frag} : PySem.W.kitAny K (.type "list") [.type "list", .type "tuple"] = some true := by
  unfold PySem.W.kitAny
  rw [show PySem.W.kitOne K (.type "list") (.type "list") = some true from by simp [PySem.W.kitOne]]
theorem kit_seq_tup {K : PySem.W.Frag} : PySem.W.kitAny K (.type "tuple") [.type "list", .type "tuple"] = some true := by
  unfold PySem.W.kitAny
  rw [show PySem.W.kitOne K (.type "tuple") (.type "list") = some false from kit_ty (by decide +kernel)]
  unfold PySem.W.kitAny
  rw [show PySem.W.kitOne K (.type "tuple") (.type "tuple") = some true from by simp [PySem.W.kitOne]]
theorem kit_seq_no {K : PySem.W.Frag} {T : String} (h1 : kitB T "list" = some false) (h2 : kitB T "tuple" = some false) : PySem.W.kitAny K (.type T) [.type "list", .type "tuple"] = some false := by
  unfold PySem.W.kitAny
  rw [kit_ty h1]
  unfold PySem.W.kitAny
  rw [kit_ty h2]
  rfl

theorem un1 {k : Nat} {A : Around} (r : Room k A) : A.units + 1 < cLine := by
  have := r.un
  omega
theorem sh_seq {b : Addr} {H : Hp} {v : V} (h : Sh b H v) : ∃ t, TyX K H v t ∧ PySem.W.kitAny K t [.type "list", .type "tuple"] = some (seqV H v).isSome := by
  cases v with
  | non => exact ⟨_, .base .non, kit_seq_no (by decide +kernel) (by decide +kernel)⟩
  | bl x => exact ⟨_, .base (.bl x), kit_seq_no (by decide +kernel) (by decide +kernel)⟩
  | int x => exact ⟨_, .base (.int x), kit_seq_no (by decide +kernel) (by decide +kernel)⟩
  | str x => exact ⟨_, .base (.str x), kit_seq_no (by decide +kernel) (by decide +kernel)⟩
  | ref a =>
    obtain ⟨ne, ⟨xs, e⟩ | ⟨xs, e⟩⟩ := h
    · exact ⟨_, .base (.lst e), by rw [seqV_lst e]; exact kit_seq_list⟩
    · exact ⟨_, .base (.tup e), by rw [seqV_tup e]; exact kit_seq_tup⟩
  | byt _ => exact h.elim
  | flt _ => exact h.elim
  | ty _ => exact h.elim
def from1 : V → Bool
  | .int i => decide (1 ≤ i)
  | _ => false
def spFrom1 : Sp := fun vs H Q _ => ∃ (b : Addr) (v : V), vs = [v] ∧ Sh b H v ∧ Q (.bl (from1 v)) H
theorem ok_from1 (T : Txt K mg) : FnOk P w K mg base CX0 2 T.a__is_from_1 T.d__is_from_1 ["value"] spFrom1 := by
  have G_is_whole : FnOk P w K mg base CX0 1 T.a_is_whole T.d_is_whole ["value"] spWhole := ok_whole T
  refine T.F__is_from_1.ok sc__is_from_1 (fun vs H Q E h => ?_) (fun cdv A outer s H vs Q E hr h => ?_)
  · obtain ⟨b, v, rfl, _⟩ := h
    rfl
  · obtain ⟨b, v, rfl, hv, k⟩ := h
    have nd := sc__is_from_1.nd
    refine ⟨_, (pss_one (ps_ret (pe_and (pe_call G_is_whole (hr.mono (by first | decide | omega)) (by rfl) T.m_is_whole T.k_is_whole T.b_is_whole .nil pass0 (pa_cons (pv 0) pa_nil)) (pe_one (pe_cmpR op_ge (pv 0) pe_int (nomark _)))))), ?_⟩
    refine ⟨_, rfl, b, v, rfl, hv, _, rfl, ?_⟩
    cases v with
    | int i => exact ifT rfl ⟨_, rfl, _, _, rfl, rfl, k⟩
    | non => exact ifF rfl k
    | bl _ => exact ifF rfl k
    | str _ => exact ifF rfl k
    | ref _ => exact ifF rfl k
    | byt _ => exact hv.elim
    | flt _ => exact hv.elim
    | ty _ => exact hv.elim

/-- the ints from lo on and below hi that are among some -/
def ascN (ns : List Int) (lo : Int) (k : Nat) : List Int := ((List.range k).map fun i => lo + (i : Nat)).filter fun n => decide (n ∈ ns)
def asc (ns : List Int) (lo hi : Int) : List Int := ascN ns lo (hi - lo).toNat
theorem ascN_succ {ns : List Int} {lo : Int} {k : Nat} : ascN ns lo (k + 1) = ascN ns lo k ++ (if decide (lo + (k : Nat) ∈ ns) = true then [lo + (k : Nat)] else []) := by
  unfold ascN
  rw [List.range_succ, List.map_append, List.filter_append]
  congr 1
  show List.filter _ [lo + (k : Nat)] = _
  rw [List.filter_cons, List.filter_nil]
theorem ascN_len {ns : List Int} {lo : Int} {k : Nat} : (ascN ns lo k).length ≤ k := by
  unfold ascN
  refine Nat.le_trans (List.length_filter_le _ _) ?_
  simp
def spAsc (K : PySem.W.Frag) : Sp := fun vs H Q _ => ∃ (a : Addr) (ns : List Int) (lo hi : Int), vs = [.ref a, .int lo, .int hi] ∧ SeqI K H a ns ∧ ns.length ≤ 1000 ∧ 0 ≤ lo ∧ lo ≤ 1 ∧ 0 ≤ hi ∧ hi ≤ 1000 ∧
  ∀ H' p, Same H H' → H p = none → H' p = some (.tup ((asc ns lo hi).map V.int)) → Q (.ref p) H'
theorem ok_asc (T : Txt K mg) : FnOk P w K mg base CX0 1 T.a__ascending T.d__ascending ["values", "low", "end"] (spAsc K) := by
  refine T.F__ascending.ok sc__ascending (fun vs H Q E h => ?_) (fun cdv A outer s H vs Q E hr h => ?_)
  · obtain ⟨a, ns, lo, hi, rfl, _⟩ := h
    rfl
  · obtain ⟨a, ns, lo, hi, rfl, hS, l0, lo0, lo1, hi0, hi1, k⟩ := h
    have nd := sc__ascending.nd
    refine ⟨_, (pss_cons (ps_set (i := 3) nd rfl (Or.inr rfl) (pe_dc (own := [("value", 4)]) (g := (gName 4)) (by rfl) nd (by exact (pi_seqA (pv 0))) (blkOk_by (N := ["values", "low", "end", "wanted", "value", "n"]) (sc := defScope s__ascending) (own := [("value", 4)]) (by decide +kernel)) (fun _ _ _ _ _ => by exact (pg_name (i := 4) nd rfl (Or.inl rfl))) (fun _ _ _ _ _ => by exact pts_nil) (fun _ _ _ _ _ => by exact (pv 4)) (fun _ _ _ _ _ => by exact pe_bl)))
    (pss_one (ps_ret (pe_callTy call_tuple_of (by rfl) T.z_tuple (by decide +kernel) (pa_cons (pe_lc (own := [("n", 5)]) (g := (gName 5)) (by rfl) nd (pi_range2 (by rfl) T.z_range (pa_cons (pv 1) (pa_cons (pv 2) pa_nil))) (blkOk_by (N := ["values", "low", "end", "wanted", "value", "n"]) (sc := defScope s__ascending) (own := [("n", 5)]) (by decide +kernel)) (fun _ _ _ _ _ => by exact (pg_name (i := 5) nd rfl (Or.inl rfl))) (fun _ _ _ _ _ => by exact pts_one (pt_cmpR (op_inDict (un1 hr)) (pv 5) (pv 3) (by rfl))) (fun _ _ _ _ _ => by exact (pv 5))) pa_nil))))), ?_⟩
    refine asg_go (dset (sl := 4) (fun R h => ⟨_, rfl, h⟩) (Nat.le_of_ble_eq_true rfl) hS l0 fun D H1 hD s1 hset => ?_)
    refine ⟨_, rfl, _, rfl, lo, hi, rfl, by omega, fun L hL => ?_⟩
    refine lc_range (fun i Hc => Hc L = some (.lst ((ascN ns lo i).map V.int)) ∧ Same H1 Hc) ⟨upd_same, same_new hL⟩ (fun i Hc hi' hP => ?_) (fun Hc hP => ?_)
    · obtain ⟨hLc, sc⟩ := hP
      obtain ⟨o, hg, ho⟩ := (hset.same sc).get (lo + (i : Nat))
      refine ⟨rfl, _, rfl, _, rfl, D, o, rfl, hg, _, rfl, ?_⟩
      rw [ho]
      have z := @ascN_succ ns lo i
      refine ifB (fun e => ?_) (fun e => ?_)
      · rw [if_pos e] at z
        refine ⟨_, rfl, _, hLc, szl (by have := @ascN_len ns lo i; rw [List.length_map]; omega), by rw [upd_same, z, List.map_append]; rfl, same_lst sc hL⟩
      · rw [if_neg (by rw [e]; exact Bool.false_ne_true), List.append_nil] at z
        rw [z]
        exact ⟨hLc, sc⟩
    · obtain ⟨hLc, sc⟩ := hP
      have sH := s1.trans sc
      refine ⟨L, _, rfl, .inl ⟨SqL.of hLc, fun p np => ?_⟩⟩
      exact k _ p (sH.trans (same_new np)) (sH.free np) upd_same

/-! the least period -/
def perOk (p s : Int) (ns : List Int) : Bool := decide (p % s = 0) && ns.all fun r => decide ((r + s) % p ∈ ns)
/-- p is the least period of the rests ns told by the period q -/
structure LeastP (q : Int) (ns : List Int) (p : Int) : Prop where
  p1 : 1 ≤ p
  le : p ≤ q
  ok : p = q ∨ perOk q p ns = true
  no : ∀ s, 1 ≤ s → s < p → perOk q s ns = false
def spLp (K : PySem.W.Frag) : Sp := fun vs H Q _ => ∃ (a : Addr) (ns : List Int) (q : Int), vs = [.int q, .ref a] ∧ SeqI K H a ns ∧ ns.length ≤ 1000 ∧ 1 ≤ q ∧ q ≤ 1000 ∧ ∀ H' p, Same H H' → LeastP q ns p → Q (.int p) H'
theorem ok_lp (T : Txt K mg) : FnOk P w K mg base CX0 1 T.a__least_period T.d__least_period ["period", "rests"] (spLp K) := by
  refine T.F__least_period.ok sc__least_period (fun vs H Q E h => ?_) (fun cdv A outer s H vs Q E hr h => ?_)
  · obtain ⟨a, ns, q, rfl, _⟩ := h
    rfl
  · obtain ⟨a, ns, q, rfl, hS, l0, q0, q1, k⟩ := h
    have nd := sc__least_period.nd
    refine ⟨_, (pss_cons (ps_set (i := 2) nd rfl (Or.inr rfl) (pe_dc (own := [("rest", 3)]) (g := (gName 3)) (by rfl) nd (by exact (pi_seqA (pv 1))) (blkOk_by (N := ["period", "rests", "wanted", "rest", "shorter"]) (sc := defScope s__least_period) (own := [("rest", 3)]) (by decide +kernel)) (fun _ _ _ _ _ => by exact (pg_name (i := 3) nd rfl (Or.inl rfl))) (fun _ _ _ _ _ => by exact pts_nil) (fun _ _ _ _ _ => by exact (pv 3)) (fun _ _ _ _ _ => by exact pe_bl)))
    (pss_cons (ps_for PassesOwn.never rfl (pi_range2 (by rfl) T.z_range (pa_cons pe_int (pa_cons (pv 0) pa_nil))) (pg_name (i := 4) nd rfl (Or.inr rfl))
    (pss_one (ps_if (PW.pt (pw_and (pt_cmpR op_eq (pe_op op_mod (pv 0) (pv 4)) pe_int (nomark _)) (pw_and1 (pt_val (pe_callB (cr_all rfl) (by rfl) T.z_all (by decide +kernel) (pa_cons (pe_lc (own := [("rest", 3)]) (g := (gName 3)) (by rfl) nd (pi_seqA (pv 1)) (blkOk_by (N := ["period", "rests", "wanted", "rest", "shorter"]) (sc := defScope s__least_period) (own := [("rest", 3)]) (by decide +kernel)) (fun _ _ _ _ _ => by exact (pg_name (i := 3) nd rfl (Or.inl rfl))) (fun _ _ _ _ _ => by exact pts_nil) (fun _ _ _ _ _ => by exact (pe_cmpR (op_inDict (un1 hr)) (pe_op op_mod (pe_op op_add (pv 3) (pv 4)) (pv 0)) (pv 2) (by rfl)))) pa_nil)))))) (pss_one (ps_ret (pv 4))) pss_nil)))
    (pss_one (ps_ret (pv 0))))), ?_⟩
    refine asg_go (dset (sl := 3) (fun R h => ⟨_, rfl, h⟩) (Nat.le_of_ble_eq_true rfl) hS l0 fun D H1 hD s1 hset => ?_)
    refine ⟨_, rfl, 1, q, rfl, by omega, for_range (fun i σ Hc => ∃ y4, σ = [some (.int q), some (.ref a), some (.ref D), none, y4] ∧ Same H1 Hc ∧ ∀ s : Int, 1 ≤ s → s < 1 + (i : Nat) → perOk q s ns = false)
      ⟨none, rfl, Same.refl _, fun s h1 h2 => by omega⟩ (fun i σ Hc hi hP => ?_) (fun σ Hc hP => ?_)⟩
    · obtain ⟨y4, rfl, sc, no⟩ := hP
      refine ⟨_, rfl, _, rfl, q, 1 + (i : Nat), rfl, rfl, by omega, rfl, _, rfl, ?_⟩
      have more : ∀ (b : Bool), perOk q (1 + (i : Nat)) ns = b → b = false → ∀ s : Int, 1 ≤ s → s < 1 + ((i + 1 : Nat) : Int) → perOk q s ns = false := fun b hb e s h1 h2 => by
        rcases (show s < 1 + (i : Nat) ∨ s = 1 + (i : Nat) by omega) with h | h
        · exact no s h1 h
        · rw [h, hb, e]
      refine ifB (fun e => ?_) (fun e => ?_)
      · have e0 : q % (1 + (i : Nat)) = 0 := by
          have := of_decide_eq_true e
          injection this
        refine b_go (lmap (sl := 3) (fun r => decide ((r + (1 + (i : Nat))) % q ∈ ns)) (fun R h => ⟨_, rfl, h⟩) (hS.same (s1.trans sc)) l0 (fun n Hd R hn sd hR => ?_) (fun L Hd hL sd hLd => ?_))
        · obtain ⟨o, hg, ho⟩ := (hset.same (sc.trans sd)).get ((n + (1 + (i : Nat))) % q)
          refine ⟨_, rfl, _, rfl, n, 1 + (i : Nat), rfl, rfl, _, rfl, _, q, rfl, rfl, by omega, _, rfl, D, o, rfl, hg, ?_⟩
          rw [ho]
          exact hR
        · refine ⟨L, _, rfl, SqL.of hLd, _, rfl, ?_⟩
          rw [all_id]
          have hp : perOk q (1 + (i : Nat)) ns = ns.all (fun r => decide ((r + (1 + (i : Nat))) % q ∈ ns)) := by
            unfold perOk
            rw [decide_eq_true e0]
            rfl
          refine ifB (fun g => ?_) (fun g => ?_)
          · exact ⟨_, rfl, k _ _ (s1.trans (sc.trans sd)) ⟨by omega, by omega, .inr (by rw [hp]; exact g), no⟩⟩
          · exact ⟨_, rfl, sc.trans sd, more _ hp g⟩
      · have e0 : ¬ q % (1 + (i : Nat)) = 0 := fun z => by
          have := of_decide_eq_false e
          exact this (congrArg V.int z)
        have hp : perOk q (1 + (i : Nat)) ns = false := by
          unfold perOk
          rw [decide_eq_false e0]
          rfl
        refine ifF rfl ?_
        exact ⟨_, rfl, sc, more _ hp rfl⟩
    · obtain ⟨y4, rfl, sc, no⟩ := hP
      exact ⟨_, rfl, k _ q (s1.trans sc) ⟨q0, Int.le_refl _, .inl rfl, fun s h1 h2 => no s h1 (by omega)⟩⟩

/-! the least start -/
/-- e is the least start that tells the same as q, with the period p -/
structure LeastS (few : List Int) (q p : Int) (rests : List Int) (e : Int) : Prop where
  e1 : 1 ≤ e
  le : e ≤ q
  same : ∀ n, e ≤ n → n < q → decide (n ∈ few) = decide (n % p ∈ rests)
  no : e = 1 ∨ decide (e - 1 ∈ few) ≠ decide ((e - 1) % p ∈ rests)
def spLs (K : PySem.W.Frag) : Sp := fun vs H Q _ => ∃ (a c : Addr) (fs rs : List Int) (q p : Int), vs = [.ref a, .int q, .int p, .ref c] ∧ SeqI K H a fs ∧ fs.length ≤ 1000 ∧ SeqI K H c rs ∧ rs.length ≤ 1000 ∧ 1 ≤ q ∧ 1 ≤ p ∧ ∀ H' e, Same H H' → LeastS fs q p rs e → Q (.int e) H'
def lastI : Option (Option V) → Nat
  | some (some (V.int e)) => e.toNat
  | _ => 0
theorem dec_bl2 {a b : Bool} (h : decide (V.bl a = V.bl b) = true) : a = b := by
  have := of_decide_eq_true h
  injection this
theorem ok_ls (T : Txt K mg) : FnOk P w K mg base CX0 1 T.a__least_start T.d__least_start ["few", "start", "period", "rests"] (spLs K) := by
  refine T.F__least_start.ok sc__least_start (fun vs H Q E h => ?_) (fun cdv A outer s H vs Q E hr h => ?_)
  · obtain ⟨a, c, fs, rs, q, p, rfl, _⟩ := h
    rfl
  · obtain ⟨a, c, fs, rs, q, p, rfl, hF, l0, hR, l1, q0, p0, k⟩ := h
    have nd := sc__least_start.nd
    refine ⟨_, (pss_cons (ps_setDc (i := 4) (own := [("n", 5)]) (g := (gName 5)) (by rfl) nd rfl rfl (sw_dc rfl rfl rfl (by decide +kernel)) (by exact (pi_seqA (pv 0))) (blkOk_by (N := ["few", "start", "period", "rests", "early", "n", "late", "rest", "earlier"]) (sc := defScope s__least_start) (own := [("n", 5)]) (by decide +kernel)) (fun _ _ _ _ _ => by exact (pg_name (i := 5) nd rfl (Or.inl rfl))) (fun _ _ _ _ _ => by exact pts_nil) (fun _ _ _ _ _ => by exact (pv 5)) (fun _ _ _ _ _ => by exact pe_bl))
    (pss_cons (ps_setDc (i := 6) (own := [("rest", 7)]) (g := (gName 7)) (by rfl) nd rfl rfl (sw_dc rfl rfl rfl (by decide +kernel)) (by exact (pi_seqA (pv 3))) (blkOk_by (N := ["few", "start", "period", "rests", "early", "n", "late", "rest", "earlier"]) (sc := defScope s__least_start) (own := [("rest", 7)]) (by decide +kernel)) (fun _ _ _ _ _ => by exact (pg_name (i := 7) nd rfl (Or.inl rfl))) (fun _ _ _ _ _ => by exact pts_nil) (fun _ _ _ _ _ => by exact (pv 7)) (fun _ _ _ _ _ => by exact pe_bl))
    (pss_cons (ps_set (i := 8) nd rfl (Or.inl rfl) (pv 1))
    (pss_cons (ps_while PassesOwn.never (PW.pt (pw_and (pt_cmpR op_gt (pv 8) pe_int (nomark _)) (pw_and1 (pt_cmpR op_eq (pe_cmpR (op_inDict (un1 hr)) (pe_op op_sub (pv 8) pe_int) (pv 4) (by rfl)) (pe_cmpR (op_inDict (un1 hr)) (pe_op op_mod (pe_op op_sub (pv 8) pe_int) (pv 2)) (pv 6) (by rfl)) (nomark _))))) (pss_one (ps_aug (i := 8) nd rfl (Or.inl rfl) pe_int ip_sub)))
    (pss_one (ps_ret (pv 8))))))), ?_⟩
    refine asg_go (dset (sl := 5) (fun R h => ⟨_, rfl, h⟩) (Nat.le_of_ble_eq_true rfl) hF l0 fun D H1 hD s1 hd => ?_)
    refine asg_go (dset (sl := 7) (fun R h => ⟨_, rfl, h⟩) (Nat.le_of_ble_eq_true rfl) (hR.same s1) l1 fun L H2 hL s2 hl => ?_)
    have s02 := s1.trans s2
    have hd2 := hd.same s2
    refine ⟨_, rfl, ?_⟩
    refine while_by (fun σ Hc => Hc = H2 ∧ ∃ e, σ = [some (.ref a), some (.int q), some (.int p), some (.ref c), some (.ref D), none, some (.ref L), none, some (.int e)] ∧ 1 ≤ e ∧ e ≤ q ∧ ∀ n, e ≤ n → n < q → decide (n ∈ fs) = decide (n % p ∈ rs))
      (fun σ _ => lastI σ[8]?) ⟨rfl, q, rfl, q0, Int.le_refl _, fun n h1 h2 => by omega⟩ (fun σ Hc hP => ?_) ?_
    · obtain ⟨rfl, e, rfl, e1, eq, same⟩ := hP
      refine ⟨_, rfl, e, 1, rfl, rfl, _, rfl, ifB (fun g => ?_) (fun g => ?_)⟩
      · have g := of_decide_eq_true g
        obtain ⟨o1, g1, h1⟩ := hd2.get (e - 1)
        obtain ⟨o2, g2, h2⟩ := hl.get ((e - 1) % p)
        refine ⟨_, rfl, e, 1, rfl, rfl, _, rfl, D, o1, rfl, g1, _, rfl, e, 1, rfl, rfl, _, rfl, e - 1, p, rfl, rfl, by omega, _, rfl, L, o2, rfl, g2, rfl, _, rfl, ?_⟩
        rw [h1, h2]
        refine ifB (fun z => ?_) (fun z => ?_)
        · have z := dec_bl2 z
          refine ⟨_, rfl, e, 1, rfl, rfl, ⟨rfl, e - 1, rfl, by omega, by omega, fun n a1 a2 => ?_⟩, ?_⟩
          · rcases (show n = e - 1 ∨ e ≤ n by omega) with h | h
            · rw [h]
              exact z
            · exact same n h a2
          · show (e - 1).toNat < e.toNat
            omega
        · have z : decide (e - 1 ∈ fs) ≠ decide ((e - 1) % p ∈ rs) := fun y => of_decide_eq_false z (congrArg V.bl y)
          exact ⟨_, rfl, k _ e s02 ⟨e1, eq, same, .inr z⟩⟩
      · have g := of_decide_eq_false g
        exact ⟨_, rfl, k _ e s02 ⟨e1, eq, same, .inl (by omega)⟩⟩
    · intro σ H Q Q' m h
      obtain ⟨v, hv, i, j, r1, r2, b, hb, h⟩ := h
      refine ⟨v, hv, i, j, r1, r2, b, hb, ?_⟩
      cases b with
      | false => exact iteF (m _ _ (by rw [if_neg Bool.false_ne_true] at h; exact h))
      | true =>
        rw [if_pos rfl] at h
        obtain ⟨v1, h1, i1, j1, r3, r4, v2, h2, a2, o2, r5, g2, v3, h3, i3, j3, r6, r7, v4, h4, i4, j4, r8, r9, c9, v5, h5, a5, o5, r10, g5, sc, b5, hb5, h⟩ := h
        exact iteT ⟨v1, h1, i1, j1, r3, r4, v2, h2, a2, o2, r5, g2, v3, h3, i3, j3, r6, r7, v4, h4, i4, j4, r8, r9, c9, v5, h5, a5, o5, r10, g5, sc, b5, hb5, m _ _ h⟩

/-- what a calendar made of these keeps -/
def CalF (H : Hp) (gs : List (Str × V)) (few : List Int) (start period : Int) (rests : List Int) : Prop := ∃ (pf pr : Addr) (e p : Int), gs = putF "few" (.ref pf) (putF "start" (.int e) (putF "rests" (.ref pr) (putF "period" (.int p) []))) ∧
  LeastP period rests p ∧ LeastS few start p (asc rests 0 p) e ∧ H pr = some (.tup ((asc rests 0 p).map V.int)) ∧ H pf = some (.tup ((asc few 1 e).map V.int))
theorem ne_of_none' {H : Hp} {a l : Addr} {o : HO} (h : H a = some o) (n : H l = none) : l ≠ a := by
  rintro rfl
  rw [n] at h
  cases h
def Seq2 (H : Hp) (a : Addr) (xs : List V) : Prop := H a = some (.lst xs) ∨ H a = some (.tup xs)
theorem Seq2.i {H : Hp} {a : Addr} {ns : List Int} (h : Seq2 H a (ns.map V.int)) : SeqI K H a ns := h.imp (fun h => SqL.of h) (fun h => SqT.of h)

/-! lists and tuples of ints, written ones too -/
def SeqD (K : PySem.W.Frag) (H : Hp) (a : Addr) (ns : List Int) : Prop := H a = some (.lst (ns.map V.int)) ∨ SqT K H a (ns.map V.int)
theorem SeqD.i {H : Hp} {a : Addr} {ns : List Int} (h : SeqD K H a ns) : SeqI K H a ns := h.imp (fun h => SqL.of h) id
theorem SeqD.same {H H' : Hp} {a : Addr} {ns : List Int} (h : SeqD K H a ns) (s : Same H H') : SeqD K H' a ns := h.imp (s _ _) (fun h => (Fz.of_same s).sqT h)
theorem SeqD.but {H F : Hp} {a x C dx : Addr} {gs : List (Str × V)} {ns : List Int} (h : SeqD K H a ns) (hx : H x = some (.ins C dx gs)) (k : But x H F) : SeqD K F a ns := by
  rcases h with h | h
  · refine .inl (k _ _ ?_ h)
    rintro rfl
    rw [hx] at h
    cases h
  · rcases (SeqI.but (ns := ns) (.inr h) hx k) with z | z
    · exact .inr (by
        rcases h with (h | ⟨o, h⟩) | h
        · refine .inl (.inl (k _ _ ?_ h))
          rintro rfl
          rw [hx] at h
          cases h
        · refine .inl (.inr ⟨o, k _ _ ?_ h⟩)
          rintro rfl
          rw [hx] at h
          cases h
        · exact .inr h)
    · exact .inr z
theorem SeqD.ty {H : Hp} {a : Addr} {ns : List Int} (h : SeqD K H a ns) : ∃ t, TyX K H (.ref a) t ∧ PySem.W.kitAny K t [.type "list", .type "tuple"] = some true := by
  rcases h with h | h
  · exact ⟨_, .base (.lst h), kit_seq_list⟩
  · exact ⟨_, sqT_ty h, kit_seq_tup⟩
def spBtwG (K : PySem.W.Frag) : Sp := fun vs H Q _ => ∃ (a : Addr) (ns : List Int) (lo hi : Int), vs = [.ref a, .int lo, .int hi] ∧ SeqD K H a ns ∧ ns.length ≤ 1000 ∧ (∀ n ∈ ns, lo ≤ n ∧ n < hi) ∧ ∀ H', Same H H' → Q (.bl true) H'
theorem ok_btwG (T : Txt K mg) : FnOk P w K mg base CX0 2 T.a__are_between T.d__are_between ["values", "low", "end"] (spBtwG K) := by
  have G_is_whole : FnOk P w K mg base CX0 1 T.a_is_whole T.d_is_whole ["value"] spWhole := ok_whole T
  have G_is_sequence : FnOk P w K mg base CX0 1 T.a_is_sequence T.d_is_sequence ["value"] (spSeq K) := ok_seq T
  refine T.F__are_between.ok sc__are_between (fun vs H Q E h => ?_) (fun cdv A outer s H vs Q E hr h => ?_)
  · obtain ⟨a, ns, lo, hi, rfl, _⟩ := h
    rfl
  · obtain ⟨a, ns, lo, hi, rfl, hS, ln, hin, k⟩ := h
    have nd := sc__are_between.nd
    refine ⟨_, (pss_one (ps_ret (pe_and (pe_call G_is_sequence (hr.mono (by first | decide | omega)) (by rfl) T.m_is_sequence T.k_is_sequence T.b_is_sequence .nil pass0 (pa_cons (pv 0) pa_nil)) (pe_one (pe_callB (cr_all rfl) (by rfl) T.z_all (by decide +kernel) (pa_cons (pe_lc (own := [("value", 3)]) (g := (gName 3)) (by rfl) nd (pi_seqA (pv 0)) (blkOk_by (N := ["values", "low", "end", "value"]) (sc := defScope s__are_between) (own := [("value", 3)]) (by decide +kernel)) (fun _ _ _ _ _ => by exact (pg_name (i := 3) nd rfl (Or.inl rfl))) (fun _ _ _ _ _ => by exact pts_nil) (fun _ _ _ _ _ => by exact (pe_and (pe_call G_is_whole (hr.mono (by first | decide | omega)) (by rfl) T.m_is_whole T.k_is_whole T.b_is_whole .nil pass0 (pa_cons (pv 3) pa_nil)) (pe_one (pe_chain op_le op_lt (pv 1) (pv 3) (pv 2)))))) pa_nil)))))), ?_⟩
    obtain ⟨t, ty, kt⟩ := hS.ty
    refine ⟨_, rfl, _, t, _, rfl, ty, kt, fun H1 s1 => ⟨_, rfl, ifT rfl ?_⟩⟩
    refine cb_go (lmap (sl := 3) (fun n => decide (lo ≤ n) && decide (n < hi)) (fun R h => ⟨_, rfl, h⟩) ((hS.same s1).i) ln (fun n Hd R hn sd hR => ?_) (fun L Hd hL sd hLd => ?_))
    · have g := hin n hn
      have e1 : (decide (lo ≤ n) && decide (n < hi)) = true := by rw [decide_eq_true g.1, decide_eq_true g.2]; rfl
      rw [e1] at hR
      refine ⟨_, rfl, a, _, rfl, trivial, _, rfl, ifT rfl ⟨_, rfl, _, rfl, _, _, rfl, rfl, _, rfl, ifT (decide_eq_true g.1) ⟨_, rfl, _, _, rfl, rfl, ?_⟩⟩⟩
      show R (.bl (decide (n < hi))) Hd
      rw [decide_eq_true g.2]
      exact hR
    · refine ⟨L, _, rfl, SqL.of hLd, ?_⟩
      show Q _ Hd
      rw [all_id, show ns.all (fun n => decide (lo ≤ n) && decide (n < hi)) = true by
        rw [List.all_eq_true]
        intro n hn
        have g := hin n hn
        rw [decide_eq_true g.1, decide_eq_true g.2]
        rfl]
      exact k _ (s1.trans sd)

/-- Calendar(..) of good arguments -/
structure TellI (fs rs : List Int) (q p : Int) : Prop where
  q1 : 1 ≤ q
  q2 : q ≤ 1000
  p1 : 1 ≤ p
  p2 : p ≤ 1000
  f1 : fs.length ≤ 1000
  r1 : rs.length ≤ 1000
  f2 : ∀ n ∈ fs, 1 ≤ n ∧ n < q
  r2 : ∀ n ∈ rs, 0 ≤ n ∧ n < p
def spCalG (K : PySem.W.Frag) (CC : Addr) : Sp := fun vs H Q _ => ∃ (x dx a0 a3 : Addr) (fs rs : List Int) (q p : Int), vs = [.ref x, .ref a0, .int q, .int p, .ref a3] ∧ H x = some (.ins CC dx []) ∧ SeqD K H a0 fs ∧ SeqD K H a3 rs ∧ TellI fs rs q p ∧
  ∀ F gs, But x H F → F x = some (.ins CC dx gs) → CalF F gs fs q p rs → Q .non F
theorem ok_calG (T : Txt K mg) : FnOk P w K mg base CX0 4 T.a_Calendar___init__ T.d_Calendar___init__ ["self", "few", "start", "period", "rests"] (spCalG K T.c_Calendar) := by
  have G__is_from_1 : FnOk P w K mg base CX0 2 T.a__is_from_1 T.d__is_from_1 ["value"] spFrom1 := ok_from1 T
  have G__are_between : FnOk P w K mg base CX0 2 T.a__are_between T.d__are_between ["values", "low", "end"] (spBtwG K) := ok_btwG T
  have G__ascending : FnOk P w K mg base CX0 1 T.a__ascending T.d__ascending ["values", "low", "end"] (spAsc K) := ok_asc T
  have G__least_period : FnOk P w K mg base CX0 1 T.a__least_period T.d__least_period ["period", "rests"] (spLp K) := ok_lp T
  have G__least_start : FnOk P w K mg base CX0 1 T.a__least_start T.d__least_start ["few", "start", "period", "rests"] (spLs K) := ok_ls T
  refine T.F_Calendar___init__.ok sc_Calendar___init__ (fun vs H Q E h => ?_) (fun cdv A outer s H vs Q E hr h => ?_)
  · obtain ⟨x, dx, a0, a3, fs, rs, q, p, rfl, _⟩ := h
    rfl
  · obtain ⟨x, dx, a0, a3, fs, rs, q, p, rfl, hx, e0, e3, tl, kn⟩ := h
    have nd := sc_Calendar___init__.nd
    have q1 := tl.q1
    have q2 := tl.q2
    have p1 := tl.p1
    have p2 := tl.p2
    have l0 := tl.f1
    have l3 := tl.r1
    have h1 : from1 (.int q) = true := decide_eq_true q1
    have h2 : from1 (.int p) = true := decide_eq_true p1
    refine ⟨_, (pss_cons (ps_if (pt_not (pt_val (pe_call G__is_from_1 (hr.mono (by first | decide | omega)) (by rfl) T.m__is_from_1 T.k__is_from_1 T.b__is_from_1 .nil pass0 (pa_cons (pv 2) pa_nil)))) (pss_one ps_never) pss_nil)
    (pss_cons (ps_if (pt_not (pt_val (pe_call G__is_from_1 (hr.mono (by first | decide | omega)) (by rfl) T.m__is_from_1 T.k__is_from_1 T.b__is_from_1 .nil pass0 (pa_cons (pv 3) pa_nil)))) (pss_one ps_never) pss_nil)
    (pss_cons (ps_if (pt_not (pt_val (pe_call G__are_between (hr.mono (by first | decide | omega)) (by rfl) T.m__are_between T.k__are_between T.b__are_between .nil pass0 (pa_cons (pv 1) (pa_cons pe_int (pa_cons (pv 2) pa_nil)))))) (pss_one ps_never) pss_nil)
    (pss_cons (ps_if (pt_not (pt_val (pe_call G__are_between (hr.mono (by first | decide | omega)) (by rfl) T.m__are_between T.k__are_between T.b__are_between .nil pass0 (pa_cons (pv 4) (pa_cons pe_int (pa_cons (pv 3) pa_nil)))))) (pss_one ps_never) pss_nil)
    (pss_cons (ps_fld (pv 0) (pe_call G__least_period (hr.mono (by first | decide | omega)) (by rfl) T.m__least_period T.k__least_period T.b__least_period .nil pass0 (pa_cons (pv 3) (pa_cons (pv 4) pa_nil))) rfl)
    (pss_cons (ps_fld (pv 0) (pe_call G__ascending (hr.mono (by first | decide | omega)) (by rfl) T.m__ascending T.k__ascending T.b__ascending .nil pass0 (pa_cons (pv 4) (pa_cons pe_int (pa_cons (pe_fld (pv 0) rfl) pa_nil)))) rfl)
    (pss_cons (ps_fld (pv 0) (pe_call G__least_start (hr.mono (by first | decide | omega)) (by rfl) T.m__least_start T.k__least_start T.b__least_start .nil pass0 (pa_cons (pv 1) (pa_cons (pv 2) (pa_cons (pe_fld (pv 0) rfl) (pa_cons (pe_fld (pv 0) rfl) pa_nil))))) rfl)
    (pss_one (ps_fld (pv 0) (pe_call G__ascending (hr.mono (by first | decide | omega)) (by rfl) T.m__ascending T.k__ascending T.b__ascending .nil pass0 (pa_cons (pv 1) (pa_cons pe_int (pa_cons (pe_fld (pv 0) rfl) pa_nil)))) rfl))))))))), ?_⟩
    refine ⟨_, rfl, x, .int q, rfl, trivial, _, rfl, ifF (by rw [h1]; rfl) ?_⟩
    refine ⟨_, rfl, x, .int p, rfl, trivial, _, rfl, ifF (by rw [h2]; rfl) ?_⟩
    refine ⟨_, rfl, _, rfl, a0, fs, 1, q, rfl, e0, by omega, tl.f2, fun H1 s1 => ⟨_, rfl, ifF rfl ?_⟩⟩
    refine ⟨_, rfl, _, rfl, a3, rs, 0, p, rfl, e3.same s1, by omega, tl.r2, fun H2 s2 => ⟨_, rfl, ifF rfl ?_⟩⟩
    have s02 := s1.trans s2
    have e03 : ∀ {F : Hp}, But x H F → SeqI K F a3 rs := fun k => (e3.but hx k).i
    have e00 : ∀ {F : Hp}, But x H F → SeqI K F a0 fs := fun k => (e0.but hx k).i
    have k2 : But x H H2 := But.of_same s02
    have hx2 := s02 _ _ hx
    refine ⟨_, rfl, _, rfl, a3, rs, p, rfl, (e03 k2), by omega, p1, p2, fun H3 p' s3 lp => ?_⟩
    have k3 := k2.trans (But.of_same s3)
    refine ⟨_, rfl, x, T.c_Calendar, dx, _, rfl, s3 _ _ hx2, T.C_Calendar, T.n_Calendar_period, by decide, ?_⟩
    have lp1 := lp.p1
    have lp2 := lp.le
    have k4 : But x H (upd H3 x (.ins T.c_Calendar dx (putF "period" (.int p') []))) := k3.upd
    have hx4 : upd H3 x (.ins T.c_Calendar dx (putF "period" (.int p') [])) x = some (.ins T.c_Calendar dx (putF "period" (.int p') [])) := upd_same
    dsimp only
    generalize upd H3 x (.ins T.c_Calendar dx (putF "period" (.int p') [])) = H4 at k4 hx4 ⊢
    refine ⟨_, rfl, _, rfl, x, _, dx, _, _, rfl, hx4, T.C_Calendar, T.n_Calendar_period, rfl, a3, rs, 0, p', rfl, (e03 k4), by omega, by decide, by decide, by omega, by omega, fun H5 pr s5 npr hpr => ?_⟩
    have k5 := k4.trans (But.of_same s5)
    refine ⟨_, rfl, x, T.c_Calendar, dx, _, rfl, s5 _ _ hx4, T.C_Calendar, T.n_Calendar_rests, by show 1 < 1000; decide, ?_⟩
    have npx : pr ≠ x := ne_of_none' hx4 npr
    have k6 : But x H (upd H5 x (.ins T.c_Calendar dx (putF "rests" (.ref pr) (putF "period" (.int p') [])))) := k5.upd
    have hx6 : upd H5 x (.ins T.c_Calendar dx (putF "rests" (.ref pr) (putF "period" (.int p') []))) x = some (.ins T.c_Calendar dx (putF "rests" (.ref pr) (putF "period" (.int p') []))) := upd_same
    have hpr6 : upd H5 x (.ins T.c_Calendar dx (putF "rests" (.ref pr) (putF "period" (.int p') []))) pr = some (.tup ((asc rs 0 p').map V.int)) := by
      rw [upd_ne npx]
      exact hpr
    dsimp only
    generalize upd H5 x (.ins T.c_Calendar dx (putF "rests" (.ref pr) (putF "period" (.int p') []))) = H6 at k6 hx6 hpr6 ⊢
    have al : (asc rs 0 p').length ≤ 1000 := by
      have := @ascN_len rs 0 (p' - 0).toNat
      unfold asc
      omega
    refine ⟨_, rfl, _, rfl, _, rfl, x, _, dx, _, _, rfl, hx6, T.C_Calendar, T.n_Calendar_period, rfl, _, rfl, x, _, dx, _, _, rfl, hx6, T.C_Calendar, T.n_Calendar_rests, rfl, a0, pr, fs, asc rs 0 p', q, p', rfl, (e00 k6), by omega, Seq2.i (.inr hpr6), al, q1, by omega, fun H7 e s7 ls => ?_⟩
    have k7 := k6.trans (But.of_same s7)
    have ls1 := ls.e1
    have ls2 := ls.le
    refine ⟨_, rfl, x, T.c_Calendar, dx, _, rfl, s7 _ _ hx6, T.C_Calendar, T.n_Calendar_start, by show 2 < 1000; decide, ?_⟩
    have k8 : But x H (upd H7 x (.ins T.c_Calendar dx (putF "start" (.int e) (putF "rests" (.ref pr) (putF "period" (.int p') []))))) := k7.upd
    have hx8 : upd H7 x (.ins T.c_Calendar dx (putF "start" (.int e) (putF "rests" (.ref pr) (putF "period" (.int p') [])))) x = some (.ins T.c_Calendar dx (putF "start" (.int e) (putF "rests" (.ref pr) (putF "period" (.int p') [])))) := upd_same
    have hpr8 : upd H7 x (.ins T.c_Calendar dx (putF "start" (.int e) (putF "rests" (.ref pr) (putF "period" (.int p') [])))) pr = some (.tup ((asc rs 0 p').map V.int)) := by
      rw [upd_ne npx]
      exact s7 _ _ hpr6
    dsimp only
    generalize upd H7 x (.ins T.c_Calendar dx (putF "start" (.int e) (putF "rests" (.ref pr) (putF "period" (.int p') [])))) = H8 at k8 hx8 hpr8 ⊢
    refine ⟨_, rfl, _, rfl, x, _, dx, _, _, rfl, hx8, T.C_Calendar, T.n_Calendar_start, rfl, a0, fs, 1, e, rfl, (e00 k8), by omega, by decide, by decide, by omega, by omega, fun H9 pf s9 npf hpf => ?_⟩
    refine ⟨_, rfl, x, T.c_Calendar, dx, _, rfl, s9 _ _ hx8, T.C_Calendar, T.n_Calendar_few, by show 3 < 1000; decide, ?_⟩
    have nfx : pf ≠ x := ne_of_none' hx8 npf
    exact kn _ _ (k8.trans (But.of_same s9)).upd upd_same
      ⟨pf, pr, e, p', rfl, lp, ls, by rw [upd_ne npx]; exact s9 _ _ hpr8, by rw [upd_ne nfx]; exact hpf⟩

/-! told and least forms: the same set -/
theorem mem_asc {ns : List Int} {lo hi n : Int} : n ∈ asc ns lo hi ↔ n ∈ ns ∧ lo ≤ n ∧ n < hi := by
  unfold asc ascN
  rw [List.mem_filter, List.mem_map]
  constructor
  · rintro ⟨⟨k, hk, rfl⟩, h⟩
    rw [List.mem_range] at hk
    exact ⟨of_decide_eq_true h, by omega, by omega⟩
  · rintro ⟨h, a, b⟩
    exact ⟨⟨(n - lo).toNat, List.mem_range.mpr (by omega), by omega⟩, decide_eq_true h⟩
theorem perOk_split {q p : Int} {rs : List Int} (h : perOk q p rs = true) : q % p = 0 ∧ ∀ r ∈ rs, (r + p) % q ∈ rs := by
  unfold perOk at h
  rw [Bool.and_eq_true, List.all_eq_true] at h
  exact ⟨of_decide_eq_true h.1, fun r hr => of_decide_eq_true (h.2 r hr)⟩
theorem closed {q p : Int} {rs : List Int} (h : ∀ r ∈ rs, (r + p) % q ∈ rs) (hb : ∀ r ∈ rs, 0 ≤ r ∧ r < q) : ∀ (k : Nat) (r : Int), r ∈ rs → (r + (k : Int) * p) % q ∈ rs
  | 0, r, hr => by
    have := hb r hr
    rw [show ((0 : Nat) : Int) * p = 0 by simp, Int.add_zero, Int.emod_eq_of_lt this.1 this.2]
    exact hr
  | k + 1, r, hr => by
    have z := h _ (closed h hb k r hr)
    rw [Int.emod_add_emod] at z
    rw [show r + ((k + 1 : Nat) : Int) * p = r + (k : Int) * p + p by rw [show ((k + 1 : Nat) : Int) = (k : Int) + 1 by omega, Int.add_mul]; omega]
    exact z
theorem per_mem {q p : Int} {rs : List Int} (lp : LeastP q rs p) (hb : ∀ r ∈ rs, 0 ≤ r ∧ r < q) (n : Int) : n % p ∈ asc rs 0 p ↔ n % q ∈ rs := by
  have p1 := lp.p1
  have a0 := Int.emod_nonneg n (show p ≠ 0 by omega)
  have a1 := Int.emod_lt_of_pos n (show 0 < p by omega)
  rw [mem_asc]
  rcases lp.ok with rfl | ok
  · exact ⟨fun h => h.1, fun h => ⟨h, a0, a1⟩⟩
  · obtain ⟨e, cl⟩ := perOk_split ok
    have le := lp.le
    have dv : p ∣ q := Int.dvd_of_emod_eq_zero e
    have d0 := Int.emod_nonneg n (show q ≠ 0 by omega)
    have d1 := Int.emod_lt_of_pos n (show 0 < q by omega)
    have dm : n % q % p = n % p := Int.emod_emod_of_dvd n dv
    have k0 : 0 ≤ n % q / p := Int.ediv_nonneg d0 (by omega)
    have k1 : n % q / p ≤ q / p := Int.ediv_le_ediv (by omega) (by omega)
    have dd := Int.emod_add_mul_ediv (n % q) p
    have qq := Int.emod_add_mul_ediv q p
    rw [e] at qq
    rw [dm] at dd
    constructor
    · rintro ⟨h, _, _⟩
      have z := closed cl hb (n % q / p).toNat _ h
      rw [Int.toNat_of_nonneg k0, show n % p + n % q / p * p = n % q by rw [Int.mul_comm]; exact dd, Int.emod_eq_of_lt d0 d1] at z
      exact z
    · intro h
      refine ⟨?_, a0, a1⟩
      have z := closed cl hb (q / p - n % q / p).toNat _ h
      rw [Int.toNat_of_nonneg (by omega), show n % q + (q / p - n % q / p) * p = n % p + q by rw [Int.sub_mul, Int.mul_comm (q / p), Int.mul_comm (n % q / p)]; omega, Int.add_emod_right, Int.emod_eq_of_lt a0 (by omega)] at z
      exact z
/-- the set told by these -/
def memC (fs : List Int) (q p : Int) (rs : List Int) (n : Int) : Bool := decide (1 ≤ n) && (if n < q then decide (n ∈ fs) else decide (n % p ∈ rs))
theorem mem_made {fs rs : List Int} {q p e p' : Int} (lp : LeastP p rs p') (ls : LeastS fs q p' (asc rs 0 p') e) (hb : ∀ r ∈ rs, 0 ≤ r ∧ r < p) {n : Int} (h1 : 1 ≤ n) :
    (if n < e then decide (n ∈ asc fs 1 e) else decide (n % p' ∈ asc rs 0 p')) = memC fs q p rs n := by
  have le := ls.le
  unfold memC
  rw [decide_eq_true h1, Bool.true_and]
  by_cases h : n < e
  · rw [if_pos h, if_pos (show n < q by omega)]
    exact decide_eq_decide.mpr ⟨fun z => (mem_asc.mp z).1, fun z => mem_asc.mpr ⟨z, h1, h⟩⟩
  · rw [if_neg h]
    by_cases h2 : n < q
    · rw [if_pos h2]
      exact (ls.same n (by omega) h2).symm
    · rw [if_neg h2]
      exact decide_eq_decide.mpr (per_mem lp hb n)

end
end K32
namespace K32
open PySem PySem.Spec PyProof.Rows L2 Rs LamX NdefX
local macro_rules | `(tactic| walk_at "om") => `(tactic| first | omega | (dsimp only; omega))
local macro_rules | `(tactic| walk_at "side") => `(tactic| first | omega | (dsimp only; omega) | decide | (unfold CMul; omega) | (unfold CDiv; omega) | (unfold CPow; omega) | exact wide_div (b := 64) (by omega) (by omega) (by decide) (by decide))
local macro_rules | `(tactic| walk_at "hp") => `(tactic| first | assumption | exact upd_same)
local macro_rules | `(tactic| walk_at "sq") => `(tactic| first | assumption | exact SqL.of (by assumption) | exact SqL.of upd_same)
local macro_rules | `(tactic| walk_at "st") => `(tactic| first
  | refine ⟨_, rfl, ?_⟩
  | (refine ⟨_, _, rfl, rfl, And.intro ?side ?_⟩; (case side => walk_at "side"))
  | refine ⟨_, _, rfl, rfl, ?_⟩
  | (refine' ⟨_, _, _, _, rfl, rfl, SqL.of ?hp, ?atx, ?_⟩; (case hp => walk_at "hp"); (case atx => exact rfl))
  | (refine' ⟨_, _, _, _, rfl, rfl, ?hp, ?atx, ?_⟩; (case hp => walk_at "hp"); (case atx => exact rfl))
  | (refine' ⟨_, _, rfl, Or.inl ?sq, ?_⟩; (case sq => walk_at "sq"))
  | refine Or.inl ⟨_, rfl, ?_⟩
  | refine Or.inr ⟨_, rfl, ?_⟩)
local macro_rules | `(tactic| walk_at "evd") => `(tactic| first
  | exact evd_int
  | exact evd_str
  | exact evd_non
  | exact evd_bl
  | exact evd_nil
  | (refine evd_cons ?_ (fun _ => ?_) <;> walk_at "evd")
  | (refine evd_tup ?_ (Nat.le_of_ble_eq_true rfl); walk_at "evd"))

section
variable {P : Program} {w : World} {K : PySem.W.Frag} {mg : Str → Option Value} {base : Heap}
/-! flags -/
/-- a calendar that was told by these -/
def CalO (CC : Addr) (H : Hp) (x : Addr) (fs rs : List Int) (q p : Int) : Prop := ∃ dx gs, H x = some (.ins CC dx gs) ∧ CalF H gs fs q p rs
theorem CalO.fz {CC : Addr} {H H' : Hp} {x : Addr} {fs rs : List Int} {q p : Int} (h : CalO CC H x fs rs q p) (k : Fz H H') : CalO CC H' x fs rs q p := by
  obtain ⟨dx, gs, hx, pf, pr, e, p', eg, lp, ls, hr, hf⟩ := h
  exact ⟨dx, gs, k _ _ trivial hx, pf, pr, e, p', eg, lp, ls, k _ _ trivial hr, k _ _ trivial hf⟩
def flagsOf (fs rs : List Int) (q p : Int) (k : Nat) : List Bool := (List.range k).map fun i => memC fs q p rs (1 + (i : Nat))
def spFlags (K : PySem.W.Frag) (CC : Addr) : Sp := fun vs H Q _ => ∃ (x : Addr) (en : Int) (fs rs : List Int) (q p : Int), vs = [.ref x, .int en] ∧ CalO CC H x fs rs q p ∧ TellI fs rs q p ∧ 1 ≤ en ∧ en ≤ 3000 ∧
  ∀ D H', Same H H' → H D = none → H' D = some (.lst ((flagsOf fs rs q p (en - 1).toNat).map V.bl)) → Q (.ref D) H'
theorem asc_len {ns : List Int} {lo hi : Int} : (asc ns lo hi).length ≤ (hi - lo).toNat := ascN_len
theorem ok_flags (T : Txt K mg) : FnOk P w K mg base CX0 1 T.a__flags_of T.d__flags_of ["calendar", "end"] (spFlags K T.c_Calendar) := by
  refine T.F__flags_of.ok sc__flags_of (fun vs H Q E h => ?_) (fun cdv A outer s H vs Q E hr h => ?_)
  · obtain ⟨x, en, fs, rs, q, p, rfl, _⟩ := h
    rfl
  · obtain ⟨x, en, fs, rs, q, p, rfl, ⟨dx, gs, hx, pf, pr, e, p', rfl, lp, ls, hpr, hpf⟩, tl, e1, e2, k⟩ := h
    have nd := sc__flags_of.nd
    have p1 := lp.p1
    have p2 := lp.le
    have s1 := ls.e1
    have s2 := ls.le
    have t1 := tl.q2
    have t2 := tl.p2
    have a1 := @asc_len fs 1 e
    have a2 := @asc_len rs 0 p'
    refine ⟨_, (pss_cons (ps_set (i := 2) nd rfl (Or.inr rfl) (pe_dc (own := [("n", 3)]) (g := (gName 3)) (by rfl) nd (by exact (pi_seqA (pe_fld (pv 0) rfl))) (blkOk_by (N := ["calendar", "end", "few", "n", "rests", "rest"]) (sc := defScope s__flags_of) (own := [("n", 3)]) (by decide +kernel)) (fun _ _ _ _ _ => by exact (pg_name (i := 3) nd rfl (Or.inl rfl))) (fun _ _ _ _ _ => by exact pts_nil) (fun _ _ _ _ _ => by exact (pv 3)) (fun _ _ _ _ _ => by exact pe_bl)))
    (pss_cons (ps_set (i := 4) nd rfl (Or.inr rfl) (pe_dc (own := [("rest", 5)]) (g := (gName 5)) (by rfl) nd (by exact (pi_seqA (pe_fld (pv 0) rfl))) (blkOk_by (N := ["calendar", "end", "few", "n", "rests", "rest"]) (sc := defScope s__flags_of) (own := [("rest", 5)]) (by decide +kernel)) (fun _ _ _ _ _ => by exact (pg_name (i := 5) nd rfl (Or.inl rfl))) (fun _ _ _ _ _ => by exact pts_nil) (fun _ _ _ _ _ => by exact (pv 5)) (fun _ _ _ _ _ => by exact pe_bl)))
    (pss_one (ps_ret (pe_lc (own := [("n", 3)]) (g := (gName 3)) (by rfl) nd (pi_range2 (by rfl) T.z_range (pa_cons pe_int (pa_cons (pv 1) pa_nil))) (blkOk_by (N := ["calendar", "end", "few", "n", "rests", "rest"]) (sc := defScope s__flags_of) (own := [("n", 3)]) (by decide +kernel)) (fun _ _ _ _ _ => by exact (pg_name (i := 3) nd rfl (Or.inl rfl))) (fun _ _ _ _ _ => by exact pts_nil) (fun _ _ _ _ _ => by exact (pe_ifExp (pt_cmpR op_lt (pv 3) (pe_fldK (K := K) rfl (pv 0) rfl) (nomark _)) (pe_cmpR (op_inDict (un1 hr)) (pv 3) (pv 2) (by rfl)) (pe_cmpR (op_inDict (un1 hr)) (pe_op op_mod (pv 3) (pe_fldK (K := K) rfl (pv 0) rfl)) (pv 4) (by rfl))))))))), ?_⟩
    refine asg_go (dset (sl := 3) (a := pf) (ns := asc fs 1 e) (fun R h => ⟨_, rfl, x, _, dx, _, _, rfl, hx, T.C_Calendar, T.n_Calendar_few, rfl, h⟩) (Nat.le_of_ble_eq_true rfl) (.inr (SqT.of hpf)) (by omega) fun D1 H1 hD1 sd1 hs1 => ?_)
    refine asg_go (dset (sl := 5) (a := pr) (ns := asc rs 0 p') (fun R h => ⟨_, rfl, x, _, dx, _, _, rfl, sd1 _ _ hx, T.C_Calendar, T.n_Calendar_rests, rfl, h⟩) (Nat.le_of_ble_eq_true rfl) (.inr (SqT.of (sd1 _ _ hpr))) (by omega) fun D2 H2 hD2 sd2 hs2 => ?_)
    have s02 := sd1.trans sd2
    refine ⟨_, rfl, 1, en, rfl, by omega, fun L hL => ?_⟩
    refine lc_range (fun i Hc => Hc L = some (.lst ((flagsOf fs rs q p i).map V.bl)) ∧ Same H2 Hc) ⟨upd_same, same_new hL⟩ (fun i Hc hi hP => ?_) (fun Hc hP => ?_)
    · obtain ⟨hLc, sc⟩ := hP
      have fin : ∀ b : Bool, b = memC fs q p rs (1 + (i : Nat)) → ∃ acc, Hc L = some (.lst acc) ∧ acc.length < sizeLine ∧ (upd Hc L (.lst (acc ++ [.bl b])) L = some (.lst ((flagsOf fs rs q p (i + 1)).map V.bl)) ∧ Same H2 (upd Hc L (.lst (acc ++ [.bl b])))) := fun b hb =>
        ⟨_, hLc, szL2 (by unfold flagsOf; rw [List.length_map, List.length_map, List.length_range]; omega), by rw [upd_same, hb]; unfold flagsOf; rw [range_succ_map, List.map_append]; rfl, same_lst sc hL⟩
      have m := mem_made lp ls tl.r2 (n := 1 + (i : Nat)) (by omega)
      have hxc := sc _ _ (s02 _ _ hx)
      refine ⟨rfl, _, rfl, _, rfl, x, _, dx, _, _, rfl, hxc, T.C_Calendar, T.n_Calendar_start, rfl, _, e, rfl, rfl, _, rfl, ifD (fun h => ?_) (fun h => ?_)⟩
      · rw [if_pos h] at m
        obtain ⟨o, hg, ho⟩ := ((hs1.same sd2).same sc).get (1 + (i : Nat))
        refine ⟨_, rfl, _, rfl, D1, o, rfl, hg, ?_⟩
        rw [ho]
        exact fin _ m
      · rw [if_neg h] at m
        obtain ⟨o, hg, ho⟩ := (hs2.same sc).get ((1 + (i : Nat)) % p')
        refine ⟨_, rfl, _, rfl, x, _, dx, _, _, rfl, hxc, T.C_Calendar, T.n_Calendar_period, rfl, _, p', rfl, rfl, by omega, _, rfl, D2, o, rfl, hg, ?_⟩
        rw [ho]
        exact fin _ m
    · obtain ⟨hLc, sc⟩ := hP
      exact k L Hc (s02.trans sc) (s02.free hL) hLc

/-! a calendar of flags -/
def flagAt (bs : List Bool) (n : Int) : Bool := (bs[(n - 1).toNat]?).getD false
def fewOf (bs : List Bool) (k : Nat) : List Int := ((List.range k).map fun i : Nat => 1 + (i : Int)).filter fun n => flagAt bs n
def restsOf (bs : List Bool) (q p : Int) (k : Nat) : List Int := (((List.range k).map fun i : Nat => q + (i : Int)).filter fun n => flagAt bs n).map fun n => n % p
theorem filter_snoc {f : Int → Bool} {g : Nat → Int} {k : Nat} : ((List.range (k + 1)).map g).filter f = ((List.range k).map g).filter f ++ (if f (g k) = true then [g k] else []) := by
  rw [range_succ_map, List.filter_append, List.filter_cons, List.filter_nil]
theorem few_len {bs : List Bool} {k : Nat} : (fewOf bs k).length ≤ k := by
  unfold fewOf
  refine Nat.le_trans (List.length_filter_le _ _) ?_
  simp
theorem rests_len {bs : List Bool} {q p : Int} {k : Nat} : (restsOf bs q p k).length ≤ k := by
  unfold restsOf
  rw [List.length_map]
  refine Nat.le_trans (List.length_filter_le _ _) ?_
  simp
theorem few_mem {bs : List Bool} {k : Nat} {n : Int} : n ∈ fewOf bs k ↔ 1 ≤ n ∧ n < 1 + (k : Int) ∧ flagAt bs n = true := by
  unfold fewOf
  rw [List.mem_filter, List.mem_map]
  constructor
  · rintro ⟨⟨i, hi, rfl⟩, h⟩
    rw [List.mem_range] at hi
    exact ⟨by omega, by omega, h⟩
  · rintro ⟨a, b, h⟩
    exact ⟨⟨(n - 1).toNat, List.mem_range.mpr (by omega), by omega⟩, h⟩
theorem rests_mem {bs : List Bool} {q p : Int} {k : Nat} {r : Int} : r ∈ restsOf bs q p k ↔ ∃ n, q ≤ n ∧ n < q + (k : Int) ∧ flagAt bs n = true ∧ n % p = r := by
  unfold restsOf
  rw [List.mem_map]
  constructor
  · rintro ⟨n, h, rfl⟩
    rw [List.mem_filter, List.mem_map] at h
    obtain ⟨⟨i, hi, rfl⟩, h⟩ := h
    rw [List.mem_range] at hi
    exact ⟨_, by omega, by omega, h, rfl⟩
  · rintro ⟨n, a, b, h, rfl⟩
    refine ⟨n, ?_, rfl⟩
    rw [List.mem_filter, List.mem_map]
    exact ⟨⟨(n - q).toNat, List.mem_range.mpr (by omega), by omega⟩, h⟩
theorem told_from {bs : List Bool} {p : Int} (p1 : 1 ≤ p) (p2 : p ≤ bs.length) (l : bs.length ≤ 1000) :
    TellI (fewOf bs (bs.length - p).toNat) (restsOf bs (bs.length - p + 1) p p.toNat) (bs.length - p + 1) p where
  q1 := by omega
  q2 := by omega
  p1 := p1
  p2 := by omega
  f1 := Nat.le_trans few_len (by omega)
  r1 := Nat.le_trans rests_len (by omega)
  f2 := fun n hn => by
    have := few_mem.mp hn
    omega
  r2 := fun n hn => by
    obtain ⟨m, _, _, _, rfl⟩ := rests_mem.mp hn
    exact ⟨Int.emod_nonneg _ (by omega), Int.emod_lt_of_pos _ (by omega)⟩
theorem flag_at {bs : List Bool} {n : Int} (n1 : 1 ≤ n) (n2 : n ≤ bs.length) : atI (bs.map V.bl) (n - 1) = some (V.bl (flagAt bs n)) := by
  have h : (n - 1).toNat < bs.length := by omega
  refine atI_ok (by omega) rfl ?_
  unfold flagAt
  rw [List.getElem?_map, List.getElem?_eq_getElem h]
  rfl
def spFrom (CC : Addr) : Sp := fun vs H Q _ => ∃ (L : Addr) (bs : List Bool) (p : Int), vs = [.ref L, .int p] ∧ H L = some (.lst (bs.map V.bl)) ∧ 1 ≤ p ∧ p ≤ bs.length ∧ bs.length ≤ 1000 ∧
  ∀ x H', Same H H' → H x = none → CalO CC H' x (fewOf bs (bs.length - p).toNat) (restsOf bs (bs.length - p + 1) p p.toNat) (bs.length - p + 1) p → Q (.ref x) H'
theorem ok_from (T : Txt K mg) : FnOk P w K mg base CX0 6 T.a_calendar_from T.d_calendar_from ["flags", "period"] (spFrom T.c_Calendar) := by
  have GI_Calendar : FnOk P w K mg base CX0 4 T.a_Calendar___init__ T.d_Calendar___init__ ["self", "few", "start", "period", "rests"] (spCalG K T.c_Calendar) := ok_calG T
  refine T.F_calendar_from.ok sc_calendar_from (fun vs H Q E h => ?_) (fun cdv A outer s H vs Q E hr h => ?_)
  · obtain ⟨L, bs, p, rfl, _⟩ := h
    rfl
  · obtain ⟨L, bs, p, rfl, hL, p1, p2, lb, k⟩ := h
    have nd := sc_calendar_from.nd
    have tl := told_from p1 p2 lb
    refine ⟨_, (pss_cons (ps_set (i := 2) nd rfl (Or.inl rfl) (pe_op op_add (pe_op op_sub (pe_callB call_len_seq (by rfl) T.z_len (by decide +kernel) (pa_cons (pv 0) pa_nil)) (pv 1)) pe_int))
    (pss_cons (ps_setLc (i := 3) (own := [("n", 4)]) (g := (gName 4)) (by rfl) nd rfl rfl (sw_true rfl rfl rfl (by decide +kernel)) (pi_range2 (by rfl) T.z_range (pa_cons pe_int (pa_cons (pv 2) pa_nil))) (blkOk_by (N := ["flags", "period", "start", "few", "n", "rests"]) (sc := defScope s_calendar_from) (own := [("n", 4)]) (by decide +kernel)) (fun _ _ _ _ _ => by exact (pg_name (i := 4) nd rfl (Or.inl rfl))) (fun _ _ _ _ _ => by exact pts_one (pt_val (pe_ix (ix_listK (K := K) rfl) (pv 0) (pe_op op_sub (pv 4) pe_int) (fun _ _ => rfl)))) (fun _ _ _ _ _ => by exact (pv 4)))
    (pss_cons (ps_setLc (i := 5) (own := [("n", 4)]) (g := (gName 4)) (by rfl) nd rfl rfl (sw_true rfl rfl rfl (by decide +kernel)) (pi_range2 (by rfl) T.z_range (pa_cons (pv 2) (pa_cons (pe_op op_add (pv 2) (pv 1)) pa_nil))) (blkOk_by (N := ["flags", "period", "start", "few", "n", "rests"]) (sc := defScope s_calendar_from) (own := [("n", 4)]) (by decide +kernel)) (fun _ _ _ _ _ => by exact (pg_name (i := 4) nd rfl (Or.inl rfl))) (fun _ _ _ _ _ => by exact pts_one (pt_val (pe_ix (ix_listK (K := K) rfl) (pv 0) (pe_op op_sub (pv 4) pe_int) (fun _ _ => rfl)))) (fun _ _ _ _ _ => by exact (pe_op op_mod (pv 4) (pv 1))))
    (pss_one (ps_ret (pe_make T.M_Calendar GI_Calendar (hr.mono (by first | decide | omega)) (by rfl) T.m_Calendar T.b_Calendar___init__ .nil pass0 (pa_cons (pv 3) (pa_cons (pv 2) (pa_cons (pv 1) (pa_cons (pv 5) pa_nil)))))))))), ?_⟩
    refine ⟨_, rfl, L, _, rfl, .inl (SqL.of hL), _, rfl, _, _, rfl, rfl, _, _, rfl, rfl, ?_⟩
    dsimp only [gName]
    rw [List.length_map]
    refine ⟨_, rfl, 1, bs.length - p + 1, rfl, by omega, fun D hD => ?_⟩
    refine lc_range (fun i Hc => Hc D = some (.lst ((fewOf bs i).map V.int)) ∧ Same H Hc) ⟨upd_same, same_new hD⟩ (fun i Hc hi hP => ?_) (fun Hc hP => ?_)
    · obtain ⟨hDc, sc⟩ := hP
      have z := @filter_snoc (flagAt bs) (fun i => 1 + (i : Int)) i
      refine ⟨rfl, _, rfl, _, rfl, _, _, rfl, rfl, _, _, _, _, rfl, rfl, SqL.of (sc _ _ hL), flag_at (by omega) (by omega), _, rfl, ifB (fun g => ?_) (fun g => ?_)⟩
      · rw [if_pos g] at z
        exact ⟨_, rfl, _, hDc, szL2 (by rw [List.length_map]; have := @few_len bs i; omega), by rw [upd_same]; unfold fewOf; rw [z, List.map_append]; rfl, same_lst sc hD⟩
      · rw [if_neg (by rw [g]; exact Bool.false_ne_true), List.append_nil] at z
        exact ⟨by unfold fewOf at hDc ⊢; rw [z]; exact hDc, sc⟩
    · obtain ⟨hDc, sc⟩ := hP
      rw [show ((bs.length : Int) - p + 1 - 1).toNat = (bs.length - p).toNat by omega] at hDc
      refine ⟨_, rfl, _, rfl, _, rfl, _, _, rfl, rfl, _, _, rfl, by omega, fun D2 hD2 => ?_⟩
      refine lc_range (fun i Hd => Hd D2 = some (.lst ((restsOf bs (bs.length - p + 1) p i).map V.int)) ∧ Same Hc Hd) ⟨upd_same, same_new hD2⟩ (fun i Hd hi hP => ?_) (fun Hd hP => ?_)
      · obtain ⟨hDd, sd⟩ := hP
        have z := @filter_snoc (flagAt bs) (fun i => bs.length - p + 1 + (i : Int)) i
        refine ⟨rfl, _, rfl, _, rfl, _, _, rfl, rfl, _, _, _, _, rfl, rfl, SqL.of ((sc.trans sd) _ _ hL), flag_at (by omega) (by omega), _, rfl, ifB (fun g => ?_) (fun g => ?_)⟩
        · rw [if_pos g] at z
          exact ⟨_, rfl, _, rfl, _, _, rfl, rfl, by omega, _, hDd, szL2 (by rw [List.length_map]; have := @rests_len bs (bs.length - p + 1) p i; omega), by rw [upd_same]; unfold restsOf; rw [z, List.map_append, List.map_append]; rfl, same_lst sd hD2⟩
        · rw [if_neg (by rw [g]; exact Bool.false_ne_true), List.append_nil] at z
          exact ⟨by unfold restsOf at hDd ⊢; rw [z]; exact hDd, sd⟩
      · obtain ⟨hDd, sd⟩ := hP
        rw [show ((bs.length : Int) - p + 1 + p - (bs.length - p + 1)).toNat = p.toNat by omega] at hDd
        have sH := sc.trans sd
        refine ⟨_, rfl, _, rfl, _, rfl, _, rfl, fun x dx nx ndx ne => ?_⟩
        have sm : Same Hd (upd (upd Hd dx (.own x)) x (.ins T.c_Calendar dx [])) := fun a o e => by
          rw [upd_ne (ne_of_none e nx), upd_ne (ne_of_none e ndx)]
          exact e
        refine ⟨x, dx, D, D2, _, _, _, _, rfl, upd_same, .inl (sm _ _ (sd _ _ hDc)), .inl (sm _ _ hDd), tl, fun F gs kF hF cf => ⟨rfl, ?_⟩⟩
        exact k x F (fun a o e => kF a o (ne_of_none (sH _ _ e) nx) (sm _ _ (sH _ _ e))) (sH.free nx) ⟨dx, gs, hF, cf⟩

/-! one set, one least form -/
theorem asc_ext {a b : List Int} {lo hi : Int} (h : ∀ n, lo ≤ n → n < hi → (n ∈ a ↔ n ∈ b)) : asc a lo hi = asc b lo hi := by
  unfold asc ascN
  refine List.filter_congr fun n hn => ?_
  obtain ⟨k, hk, rfl⟩ := List.mem_map.mp hn
  rw [List.mem_range] at hk
  exact decide_eq_decide.mpr (h _ (by omega) (by omega))
theorem per_times {f : Int → Bool} {a : Nat} (h : ∀ n : Int, f (n + (a : Int)) = f n) : ∀ (k : Nat) (n : Int), f (n + (k : Int) * (a : Int)) = f n
  | 0, n => by rw [show n + ((0 : Nat) : Int) * (a : Int) = n by simp]
  | k + 1, n => by
    rw [show n + ((k + 1 : Nat) : Int) * (a : Int) = (n + (k : Int) * (a : Int)) + (a : Int) by rw [show ((k + 1 : Nat) : Int) = (k : Int) + 1 by omega, Int.add_mul]; omega, h]
    exact per_times h k n
theorem per_gcd {f : Int → Bool} (a b : Nat) : (∀ n : Int, f (n + (a : Int)) = f n) → (∀ n : Int, f (n + (b : Int)) = f n) → ∀ n : Int, f (n + ((Nat.gcd a b : Nat) : Int)) = f n := by
  refine Nat.gcd.induction (P := fun a b => (∀ n : Int, f (n + (a : Int)) = f n) → (∀ n : Int, f (n + (b : Int)) = f n) → ∀ n : Int, f (n + ((Nat.gcd a b : Nat) : Int)) = f n) a b (fun b _ hb => ?_) (fun a b _ ih ha hb => ?_)
  · rw [Nat.gcd_zero_left]
    exact hb
  · rw [Nat.gcd_rec]
    refine ih (fun n => ?_) ha
    have e : ((b : Nat) : Int) = ((b % a : Nat) : Int) + ((b / a : Nat) : Int) * ((a : Nat) : Int) := by
      have := Nat.mod_add_div b a
      rw [Nat.mul_comm] at this
      exact_mod_cast this.symm
    have z := per_times ha (b / a) (n + ((b % a : Nat) : Int))
    rw [Int.add_assoc, ← e, hb] at z
    exact z.symm
theorem mem_late {fs rs : List Int} {q p e p' : Int} (lp : LeastP p rs p') (ls : LeastS fs q p' (asc rs 0 p') e) (hb : ∀ r ∈ rs, 0 ≤ r ∧ r < p) {n : Int} (h1 : 1 ≤ n) (he : e ≤ n) :
    memC fs q p rs n = decide (n % p' ∈ asc rs 0 p') := by
  rw [← mem_made lp ls hb h1, if_neg (by omega)]
theorem mem_early {fs rs : List Int} {q p e p' : Int} (ls : LeastS fs q p' (asc rs 0 p') e) {n : Int} (h1 : 1 ≤ n) (he : n < e) :
    memC fs q p rs n = decide (n ∈ fs) := by
  have := ls.le
  unfold memC
  rw [decide_eq_true h1, Bool.true_and, if_pos (by omega)]
theorem far_same {fs rs FS RS : List Int} {q p e p' Q P E P' : Int} (lp : LeastP p rs p') (ls : LeastS fs q p' (asc rs 0 p') e) (hb : ∀ r ∈ rs, 0 ≤ r ∧ r < p)
    (lp2 : LeastP P RS P') (ls2 : LeastS FS Q P' (asc RS 0 P') E) (hb2 : ∀ r ∈ RS, 0 ≤ r ∧ r < P)
    (same : ∀ n, 1 ≤ n → memC fs q p rs n = memC FS Q P RS n) (n : Int) : decide (n % p' ∈ asc rs 0 p') = decide (n % P' ∈ asc RS 0 P') := by
  have a1 := lp.p1
  have a2 := lp2.p1
  have e1 := ls.e1
  have e2 := ls2.e1
  have pp : 1 ≤ p' * P' := Int.mul_pos (show (0 : Int) < p' by omega) (show (0 : Int) < P' by omega)
  have big : (((n.natAbs : Int) + e + E) : Int) * 1 ≤ ((n.natAbs : Int) + e + E) * (p' * P') := Int.mul_le_mul_of_nonneg_left pp (by omega)
  generalize hm : ((n.natAbs : Int) + e + E) = m at big
  have N1 : 1 ≤ n + m * (p' * P') ∧ e ≤ n + m * (p' * P') ∧ E ≤ n + m * (p' * P') := by
    have : n + m * (p' * P') ≥ n + m := by omega
    omega
  have z := same _ N1.1
  rw [mem_late lp ls hb N1.1 N1.2.1, mem_late lp2 ls2 hb2 N1.1 N1.2.2] at z
  rw [show (n + m * (p' * P')) % p' = n % p' by rw [show m * (p' * P') = (m * P') * p' by rw [Int.mul_comm p', Int.mul_assoc]]; exact Int.add_mul_emod_self_right _ _ _,
    show (n + m * (p' * P')) % P' = n % P' by rw [← Int.mul_assoc]; exact Int.add_mul_emod_self_right _ _ _] at z
  exact z
theorem per_is {rs : List Int} {p p' : Int} (lp : LeastP p rs p') (hb : ∀ r ∈ rs, 0 ≤ r ∧ r < p) {b : Nat} (h : ∀ n : Int, decide ((n + (b : Int)) % p' ∈ asc rs 0 p') = decide (n % p' ∈ asc rs 0 p')) : Nat.gcd p'.toNat b = p'.toNat := by
  have a1 := lp.p1
  have a2 := lp.le
  have ha : ∀ n : Int, decide ((n + (p'.toNat : Int)) % p' ∈ asc rs 0 p') = decide (n % p' ∈ asc rs 0 p') := fun n => by
    rw [show ((p'.toNat : Nat) : Int) = p' by omega, Int.add_emod_right]
  have hg := per_gcd (f := fun n => decide (n % p' ∈ asc rs 0 p')) p'.toNat b ha h
  have dv : Nat.gcd p'.toNat b ∣ p'.toNat := Nat.gcd_dvd_left _ _
  have g1 : 0 < Nat.gcd p'.toNat b := Nat.gcd_pos_of_pos_left _ (by omega)
  have gle := Nat.le_of_dvd (by omega) dv
  generalize Nat.gcd p'.toNat b = g at *
  by_cases lt : g < p'.toNat
  · exfalso
    have no := lp.no (g : Int) (by omega) (by omega)
    have dvp : p' ∣ p := by
      rcases lp.ok with e | ok
      · rw [e]; exact Int.dvd_refl _
      · exact Int.dvd_of_emod_eq_zero (perOk_split ok).1
    have dg : (g : Int) ∣ p' := by
      have := Int.ofNat_dvd.mpr dv
      rwa [show ((p'.toNat : Nat) : Int) = p' by omega] at this
    have yes : perOk p (g : Int) rs = true := by
      unfold perOk
      rw [Bool.and_eq_true, List.all_eq_true]
      refine ⟨decide_eq_true (Int.emod_eq_zero_of_dvd (Int.dvd_trans dg dvp)), fun r hr => decide_eq_true ((per_mem lp hb _).mp ?_)⟩
      have z := hg r
      have br := hb r hr
      have y : r % p' ∈ asc rs 0 p' := (per_mem lp hb r).mpr (by rw [Int.emod_eq_of_lt br.1 br.2]; exact hr)
      rw [decide_eq_true y] at z
      exact of_decide_eq_true z
    rw [yes] at no
    exact absurd no (by decide)
  · omega
/-- two least forms of one set are the same -/
theorem uniq {fs rs FS RS : List Int} {q p e p' Q P E P' : Int} (lp : LeastP p rs p') (ls : LeastS fs q p' (asc rs 0 p') e) (hb : ∀ r ∈ rs, 0 ≤ r ∧ r < p)
    (lp2 : LeastP P RS P') (ls2 : LeastS FS Q P' (asc RS 0 P') E) (hb2 : ∀ r ∈ RS, 0 ≤ r ∧ r < P)
    (same : ∀ n, 1 ≤ n → memC fs q p rs n = memC FS Q P RS n) : p' = P' ∧ asc rs 0 p' = asc RS 0 P' ∧ e = E ∧ asc fs 1 e = asc FS 1 E := by
  have a1 := lp.p1
  have a2 := lp2.p1
  have fs0 := far_same lp ls hb lp2 ls2 hb2 same
  have g1 : Nat.gcd p'.toNat P'.toNat = p'.toNat := per_is lp hb fun n => by
    rw [fs0, fs0, show ((P'.toNat : Nat) : Int) = P' by omega, Int.add_emod_right]
  have g2 : Nat.gcd P'.toNat p'.toNat = P'.toNat := per_is lp2 hb2 fun n => by
    rw [← fs0, ← fs0, show ((p'.toNat : Nat) : Int) = p' by omega, Int.add_emod_right]
  rw [Nat.gcd_comm] at g2
  have ep : p' = P' := by omega
  subst ep
  have eR : asc rs 0 p' = asc RS 0 p' := asc_ext fun n n0 n1 => by
    have z := decide_eq_decide.mp (fs0 n)
    rw [Int.emod_eq_of_lt n0 n1, mem_asc, mem_asc] at z
    exact ⟨fun h => (z.mp ⟨h, n0, n1⟩).1, fun h => (z.mpr ⟨h, n0, n1⟩).1⟩
  have ee : e = E := by
    have x1 := ls.e1
    have x2 := ls2.e1
    rcases Int.lt_trichotomy e E with h | h | h
    · rcases ls2.no with c | c
      · omega
      · have z := same (E - 1) (by omega)
        rw [mem_late lp ls hb (by omega) (by omega), mem_early ls2 (by omega) (by omega), eR] at z
        exact absurd z.symm c
    · exact h
    · rcases ls.no with c | c
      · omega
      · have z := same (e - 1) (by omega)
        rw [mem_late lp2 ls2 hb2 (by omega) (by omega), mem_early ls (by omega) (by omega), ← eR] at z
        exact absurd z c
  subst ee
  refine ⟨rfl, eR, rfl, asc_ext fun n n0 n1 => ?_⟩
  have z := same n n0
  rw [mem_early ls n0 n1, mem_early ls2 n0 n1] at z
  exact decide_eq_decide.mp z

end
end K32
namespace K32
open PySem PySem.Spec PyProof.Rows L2 Rs LamX NdefX
local macro_rules | `(tactic| walk_at "om") => `(tactic| first | omega | (dsimp only; omega))
local macro_rules | `(tactic| walk_at "side") => `(tactic| first | omega | (dsimp only; omega) | decide | (unfold CMul; omega) | (unfold CDiv; omega) | (unfold CPow; omega) | exact wide_div (b := 64) (by omega) (by omega) (by decide) (by decide))
local macro_rules | `(tactic| walk_at "hp") => `(tactic| first | assumption | exact upd_same)
local macro_rules | `(tactic| walk_at "sq") => `(tactic| first | assumption | exact SqL.of (by assumption) | exact SqL.of upd_same)
local macro_rules | `(tactic| walk_at "st") => `(tactic| first
  | refine ⟨_, rfl, ?_⟩
  | (refine ⟨_, _, rfl, rfl, And.intro ?side ?_⟩; (case side => walk_at "side"))
  | refine ⟨_, _, rfl, rfl, ?_⟩
  | (refine' ⟨_, _, _, _, rfl, rfl, SqL.of ?hp, ?atx, ?_⟩; (case hp => walk_at "hp"); (case atx => exact rfl))
  | (refine' ⟨_, _, _, _, rfl, rfl, ?hp, ?atx, ?_⟩; (case hp => walk_at "hp"); (case atx => exact rfl))
  | (refine' ⟨_, _, rfl, Or.inl ?sq, ?_⟩; (case sq => walk_at "sq"))
  | refine Or.inl ⟨_, rfl, ?_⟩
  | refine Or.inr ⟨_, rfl, ?_⟩)
local macro_rules | `(tactic| walk_at "evd") => `(tactic| first
  | exact evd_int
  | exact evd_str
  | exact evd_non
  | exact evd_bl
  | exact evd_nil
  | (refine evd_cons ?_ (fun _ => ?_) <;> walk_at "evd")
  | (refine evd_tup ?_ (Nat.le_of_ble_eq_true rfl); walk_at "evd"))

section
variable {P : Program} {w : World} {K : PySem.W.Frag} {mg : Str → Option Value} {base : Heap}
/-! calendars as sets -/
theorem un65 {k : Nat} {A : Around} (r : Room k A) : A.units + 65 < cLine := by
  have := r.un
  omega
theorem memC_late {fs rs : List Int} {q p n : Int} (h1 : 1 ≤ n) (h : q ≤ n) : memC fs q p rs n = decide (n % p ∈ rs) := by
  unfold memC
  rw [decide_eq_true h1, Bool.true_and, if_neg (by omega)]
theorem LeastP.dvd {q p : Int} {rs : List Int} (lp : LeastP q rs p) : p ∣ q := by
  rcases lp.ok with e | ok
  · rw [e]; exact Int.dvd_refl _
  · exact Int.dvd_of_emod_eq_zero (perOk_split ok).1
theorem flag_is {h : Int → Bool} {L : Nat} {n : Int} (n1 : 1 ≤ n) (n2 : n ≤ L) : flagAt ((List.range L).map fun i : Nat => h (1 + (i : Int))) n = h n := by
  unfold flagAt
  rw [List.getElem?_map, List.getElem?_range (by omega)]
  show h (1 + ((n - 1).toNat : Int)) = h n
  rw [show (1 : Int) + ((n - 1).toNat : Int) = n by omega]
/-- what calendar_from makes of the flags of h -/
theorem mem_from {h hl : Int → Bool} {L : Nat} {p q : Int} {bs : List Bool} (eb : bs = (List.range L).map fun i : Nat => h (1 + (i : Int))) (p1 : 1 ≤ p) (pL : p ≤ L) (eq : q = bs.length - p + 1) (hp : ∀ n, hl (n % p) = hl n) (hh : ∀ n, q ≤ n → h n = hl n) {n : Int} (n1 : 1 ≤ n) :
    memC (fewOf bs (bs.length - p).toNat) q p (restsOf bs q p p.toNat) n = h n := by
  have el : bs.length = L := by rw [eb, List.length_map, List.length_range]
  rw [el] at eq
  have fl : ∀ {m : Int}, 1 ≤ m → m ≤ L → flagAt bs m = h m := fun a b => by rw [eb]; exact flag_is a b
  by_cases c : n < q
  · unfold memC
    rw [decide_eq_true n1, Bool.true_and, if_pos c]
    rw [← fl n1 (by omega)]
    by_cases g : flagAt bs n = true
    · rw [g]
      exact decide_eq_true (few_mem.mpr ⟨n1, by rw [el]; omega, g⟩)
    · rw [Bool.not_eq_true] at g
      rw [g]
      exact decide_eq_false fun z => by
        have := (few_mem.mp z).2.2
        rw [g] at this
        cases this
  · rw [memC_late n1 (by omega)]
    have r0 := Int.emod_nonneg (n - q) (show p ≠ 0 by omega)
    have r1 := Int.emod_lt_of_pos (n - q) (show 0 < p by omega)
    have em : (q + (n - q) % p) % p = n % p := by
      rw [Int.add_emod_emod]
      congr 1
      omega
    have e2 : h (q + (n - q) % p) = h n := by
      rw [hh _ (by omega), hh _ (by omega), ← hp (q + (n - q) % p), em, hp]
    rw [← e2]
    by_cases g : h (q + (n - q) % p) = true
    · rw [g]
      exact decide_eq_true (rests_mem.mpr ⟨_, by omega, by omega, by rw [fl (by omega) (by omega)]; exact g, em⟩)
    · rw [Bool.not_eq_true] at g
      rw [g]
      refine decide_eq_false fun z => ?_
      obtain ⟨m, m1, m2, m3, m4⟩ := rests_mem.mp z
      rw [fl (by omega) (by omega), hh _ m1, ← hp m, m4, ← em, hp, ← hh _ (by omega), g] at m3
      cases m3
/-- a calendar of the integers that f tells, told with a start of at most B and a period that divides M -/
def CalS (CC : Addr) (B M : Int) (H : Hp) (x : Addr) (f : Int → Bool) : Prop := ∃ fs rs q p, CalO CC H x fs rs q p ∧ TellI fs rs q p ∧ q ≤ B ∧ p ∣ M ∧ ∀ n, 1 ≤ n → memC fs q p rs n = f n
theorem CalS.fz {CC : Addr} {B M : Int} {H H' : Hp} {x : Addr} {f : Int → Bool} (h : CalS CC B M H x f) (k : Fz H H') : CalS CC B M H' x f := by
  obtain ⟨fs, rs, q, p, co, r⟩ := h
  exact ⟨fs, rs, q, p, co.fz k, r⟩
theorem CalS.same {CC : Addr} {B M : Int} {H H' : Hp} {x : Addr} {f : Int → Bool} (h : CalS CC B M H x f) (k : Same H H') : CalS CC B M H' x f := h.fz (Fz.of_same k)
theorem CalS.ext {CC : Addr} {B M : Int} {H : Hp} {x : Addr} {f g : Int → Bool} (h : CalS CC B M H x f) (e : ∀ n, 1 ≤ n → f n = g n) : CalS CC B M H x g := by
  obtain ⟨fs, rs, q, p, co, tl, a, b, m⟩ := h
  exact ⟨fs, rs, q, p, co, tl, a, b, fun n n1 => (m n n1).trans (e n n1)⟩
theorem CalS.ins {CC : Addr} {B M : Int} {H : Hp} {x : Addr} {f : Int → Bool} (h : CalS CC B M H x f) : ∃ dx gs, H x = some (.ins CC dx gs) := by
  obtain ⟨fs, rs, q, p, ⟨dx, gs, hx, _⟩, _⟩ := h
  exact ⟨dx, gs, hx⟩
/-- f is told from e on by its remainders by p -/
structure Late (f : Int → Bool) (e p : Int) (R : List Int) : Prop where
  e1 : 1 ≤ e
  p1 : 1 ≤ p
  late : ∀ n, e ≤ n → f n = decide (n % p ∈ R)
def Kept (K : PySem.W.Frag) (A : Addr) (c : Bool → Bool → Bool) : Prop := ∃ ds : List PyData, (∀ H, Dp K H (.ref A) (.tuple ds)) ∧ SeqAt.shaped (.tuple ds) = true ∧ ∀ a b : Bool, (ds.any fun z => PyData.eqv z (.tuple [.bool a, .bool b])) = c a b
def spMerged (K : PySem.W.Frag) (CC : Addr) (B M : Int) : Sp := fun vs H Q _ => ∃ (x y A : Addr) (f g : Int → Bool) (c : Bool → Bool → Bool), vs = [.ref x, .ref y, .ref A] ∧ CalS CC B M H x f ∧ CalS CC B M H y g ∧ Kept K A c ∧ 1 ≤ M ∧ B + M ≤ 1000 ∧
  ∀ z H', Same H H' → H z = none → CalS CC B M H' z (fun n => c (f n) (g n)) → Q (.ref z) H'
theorem at_map2 {α β : Type} {f : α → β} {l : List α} {i : Nat} {y : β} (h : (l.map f)[i]? = some y) : ∃ x, l[i]? = some x ∧ f x = y := by
  rw [List.getElem?_map] at h
  exact Option.map_eq_some_iff.mp h
theorem flagsOf_eq {fs rs : List Int} {q p : Int} {f : Int → Bool} {k : Nat} (h : ∀ n, 1 ≤ n → memC fs q p rs n = f n) : flagsOf fs rs q p k = (List.range k).map fun i : Nat => f (1 + (i : Int)) := by
  unfold flagsOf
  refine List.map_congr_left fun i _ => h _ (by omega)
theorem ok_merged (B M : Int) (T : Txt K mg) : FnOk P w K mg base CX0 7 T.a__merged T.d__merged ["one", "other", "kept"] (spMerged K T.c_Calendar B M) := by
  have G__flags_of : FnOk P w K mg base CX0 1 T.a__flags_of T.d__flags_of ["calendar", "end"] (spFlags K T.c_Calendar) := ok_flags T
  have G_calendar_from : FnOk P w K mg base CX0 6 T.a_calendar_from T.d_calendar_from ["flags", "period"] (spFrom T.c_Calendar) := ok_from T
  refine T.F__merged.ok sc__merged (fun vs H Q E h => ?_) (fun cdv A outer s H vs Q E hr h => ?_)
  · obtain ⟨x, y, A, f, g, c, rfl, _⟩ := h
    rfl
  · obtain ⟨x, y, A, f, g, c, rfl, ⟨fs, rs, q, p, cox, tlx, qB, pM, mx⟩, ⟨FS, RS, Q', P', coy, tly, QB, PM, my⟩, hk, M1, BM, k⟩ := h
    have nd := sc__merged.nd
    refine ⟨_, (pss_cons (ps_set (i := 3) nd rfl (Or.inl rfl) (pe_ifExp (pt_cmpR op_gt (pe_fld (pv 0) rfl) (pe_fld (pv 1) rfl) (nomark _)) (pe_fld (pv 0) rfl) (pe_fld (pv 1) rfl)))
    (pss_cons (ps_set (i := 4) nd rfl (Or.inl rfl) (pe_callBfun cr_lcm (by rfl) T.m_lcm (pa_cons (pe_fld (pv 0) rfl) (pa_cons (pe_fld (pv 1) rfl) pa_nil))))
    (pss_cons (ps_set (i := 5) nd rfl (Or.inl rfl) (pe_listZip rfl (by rfl) T.z_list (by rfl) T.z_zip (pa_cons (pe_call G__flags_of (hr.mono (by first | decide | omega)) (by rfl) T.m__flags_of T.k__flags_of T.b__flags_of .nil pass0 (pa_cons (pv 0) (pa_cons (pe_op op_add (pv 3) (pv 4)) pa_nil))) (pa_cons (pe_call G__flags_of (hr.mono (by first | decide | omega)) (by rfl) T.m__flags_of T.k__flags_of T.b__flags_of .nil pass0 (pa_cons (pv 1) (pa_cons (pe_op op_add (pv 3) (pv 4)) pa_nil))) pa_nil))))
    (pss_one (ps_ret (pe_call G_calendar_from (hr.mono (by first | decide | omega)) (by rfl) T.m_calendar_from T.k_calendar_from T.b_calendar_from .nil pass0 (pa_cons (pe_lc (own := [("pair", 6)]) (g := (gName 6)) (by rfl) nd (pi_list (pv 5)) (blkOk_by (N := ["one", "other", "kept", "start", "period", "pairs", "pair"]) (sc := defScope s__merged) (own := [("pair", 6)]) (by decide +kernel)) (fun _ _ _ _ _ => by exact (pg_name (i := 6) nd rfl (Or.inl rfl))) (fun _ _ _ _ _ => by exact pts_nil) (fun _ _ _ _ _ => by exact (pe_cmpR (op_inTD rfl (un65 hr)) (pv 6) (pv 2) (by rfl)))) (pa_cons (pv 4) pa_nil)))))))), ?_⟩
    obtain ⟨dx, gs, hx, pf, pr, e, p', rfl, lp, ls, hpr, hpf⟩ := id cox
    obtain ⟨dy, hs, hy, qf, qr, e2, p2, rfl, lp2, ls2, hqr, hqf⟩ := id coy
    have q1 := lp.p1
    have q2 := lp.le
    have q3 := ls.e1
    have q4 := ls.le
    have t1 := lp2.p1
    have t2 := lp2.le
    have t3 := ls2.e1
    have t4 := ls2.le
    have u1 := tlx.p2
    have u2 := tly.p2
    have l0 : 0 < Nat.lcm p'.natAbs p2.natAbs := Nat.lcm_pos (by omega) (by omega)
    have d1 : p' ∣ ((Nat.lcm p'.natAbs p2.natAbs : Nat) : Int) := Int.natAbs_dvd_natAbs.mp (by rw [Int.natAbs_natCast]; exact Nat.dvd_lcm_left _ _)
    have d2 : p2 ∣ ((Nat.lcm p'.natAbs p2.natAbs : Nat) : Int) := Int.natAbs_dvd_natAbs.mp (by rw [Int.natAbs_natCast]; exact Nat.dvd_lcm_right _ _)
    have d3 : ((Nat.lcm p'.natAbs p2.natAbs : Nat) : Int) ∣ M := by
      refine Int.natAbs_dvd_natAbs.mp ?_
      rw [Int.natAbs_natCast]
      exact Nat.lcm_dvd (Int.natAbs_dvd_natAbs.mpr (Int.dvd_trans lp.dvd pM)) (Int.natAbs_dvd_natAbs.mpr (Int.dvd_trans lp2.dvd PM))
    have d4 := Int.le_of_dvd (by omega) d3
    generalize hl : ((Nat.lcm p'.natAbs p2.natAbs : Nat) : Int) = l at d1 d2 d3 d4
    have l1 : 1 ≤ l := by omega
    obtain ⟨ds, hds, sds, cds⟩ := hk
    obtain ⟨S, eS⟩ : ∃ S : Int, S = (if e2 < e then e else e2) := ⟨_, rfl⟩
    have S1 : e ≤ S ∧ e2 ≤ S ∧ S ≤ B ∧ 1 ≤ S := by
      rw [eS]
      split <;> omega
    refine asg_go (val_go (v := .int S) (fun R hR => ?_) ?_)
    · refine ⟨_, rfl, x, _, dx, _, _, rfl, hx, T.C_Calendar, T.n_Calendar_start, rfl, _, rfl, y, _, dy, _, _, rfl, hy, T.C_Calendar, T.n_Calendar_start, rfl, _, _, rfl, rfl, _, rfl, ifD (fun h => ?_) (fun h => ?_)⟩
      · rw [if_pos h] at eS
        subst eS
        exact ⟨_, rfl, x, _, dx, _, _, rfl, hx, T.C_Calendar, T.n_Calendar_start, rfl, hR⟩
      · rw [if_neg h] at eS
        subst eS
        exact ⟨_, rfl, y, _, dy, _, _, rfl, hy, T.C_Calendar, T.n_Calendar_start, rfl, hR⟩
    dsimp only [gName]
    refine ⟨_, rfl, x, _, dx, _, _, rfl, hx, T.C_Calendar, T.n_Calendar_period, rfl, _, rfl, y, _, dy, _, _, rfl, hy, T.C_Calendar, T.n_Calendar_period, rfl, p', p2, rfl, by omega, by omega, ?_⟩
    rw [hl]
    dsimp only [gName]
    refine ⟨_, rfl, _, rfl, _, rfl, _, _, rfl, rfl, x, S + l, fs, rs, q, p, rfl, cox, tlx, by omega, by omega, fun L1 H1 s1 n1 h1 => ?_⟩
    refine ⟨_, rfl, _, rfl, _, rfl, _, _, rfl, rfl, y, S + l, FS, RS, Q', P', rfl, coy.fz (Fz.of_same s1), tly, by omega, by omega, fun Lb H2 s2 n2 h2 => ?_⟩
    have s02 := s1.trans s2
    rw [flagsOf_eq mx] at h1
    rw [flagsOf_eq my] at h2
    have h1 := s2 _ _ h1
    refine ⟨L1, Lb, _, _, rfl, h1, h2, by simp, by simp; omega, fun H3 LL ts s3 nL hLL lts hts => ?_⟩
    dsimp only [gName]
    have s03 := s02.trans s3
    refine retc_go (lmapI (sl := 6) (fun i => .bl (c (f (1 + (i : Int))) (g (1 + (i : Int))))) (fun R h => ⟨_, rfl, h⟩) hLL (by simp at lts ⊢; omega) (fun j v hj Hc R sc hR => ?_) (fun D H4 nD s4 hD => ?_))
    · obtain ⟨t, ht, rfl⟩ := at_map2 hj
      obtain ⟨_, vx, vy, e1, e2', htt⟩ := hts j t ht
      obtain ⟨b1, e3, rfl⟩ := at_map2 e1
      obtain ⟨b2, e4, rfl⟩ := at_map2 e2'
      obtain ⟨i1, e5, rfl⟩ := at_map2 e3
      obtain ⟨i2, e6, rfl⟩ := at_map2 e4
      obtain rfl : j = i1 := by
        obtain ⟨h, e⟩ := List.getElem?_eq_some_iff.mp e5
        rw [← e, List.getElem_range]
      obtain rfl : j = i2 := by
        obtain ⟨h, e⟩ := List.getElem?_eq_some_iff.mp e6
        rw [← e, List.getElem_range]
      refine ⟨_, rfl, _, rfl, .tuple [.bool _, .bool _], ds, .tup (SqT.of (sc _ _ htt)) (.cons (.bl _) (.cons (.bl _) .nil)), hds Hc, rfl, sds, ?_⟩
      show R (.bl (ds.any fun z => z.eqv (.tuple [.bool _, .bool _]))) Hc
      rw [cds]
      exact hR Hc (Same.refl _)
    · have s04 := s03.trans s4
      rw [List.length_map, lts, List.length_map, List.length_map, List.length_range] at hD
      have eD : (List.range (S + l - 1).toNat).map (fun i : Nat => V.bl (c (f (1 + (i : Int))) (g (1 + (i : Int))))) = ((List.range (S + l - 1).toNat).map (fun i : Nat => c (f (1 + (i : Int))) (g (1 + (i : Int))))).map V.bl := by
        rw [List.map_map]
        rfl
      rw [eD] at hD
      have lb : ((List.range (S + l - 1).toNat).map (fun i : Nat => c (f (1 + (i : Int))) (g (1 + (i : Int))))).length = (S + l - 1).toNat := by
        rw [List.length_map, List.length_range]
      refine ⟨_, rfl, D, _, l, rfl, hD, l1, by rw [lb]; omega, by rw [lb]; omega, fun z H5 s5 nz co => ?_⟩
      refine k z H5 (s04.trans s5) (s04.free nz) ⟨_, _, _, _, co, told_from l1 (by rw [lb]; omega) (by rw [lb]; omega), by rw [lb]; omega, d3, fun n n1 => ?_⟩
      refine mem_from (h := fun n => c (f n) (g n)) (hl := fun n => c (decide (n % p' ∈ asc rs 0 p')) (decide (n % p2 ∈ asc RS 0 p2))) rfl l1 (by omega) rfl (fun n => ?_) (fun n hn => ?_) n1
      · show c (decide ((n % l) % p' ∈ _)) (decide ((n % l) % p2 ∈ _)) = _
        rw [Int.emod_emod_of_dvd _ d1, Int.emod_emod_of_dvd _ d2]
      · rw [lb] at hn
        show c (f n) (g n) = _
        rw [← mx n (by omega), ← my n (by omega), mem_late lp ls tlx.r2 (by omega) (by omega), mem_late lp2 ls2 tly.r2 (by omega) (by omega)]

end
end K32
namespace K32
open PySem PySem.Spec PyProof.Rows L2 Rs LamX NdefX
local macro_rules | `(tactic| walk_at "om") => `(tactic| first | omega | (dsimp only; omega))
local macro_rules | `(tactic| walk_at "side") => `(tactic| first | omega | (dsimp only; omega) | decide | (unfold CMul; omega) | (unfold CDiv; omega) | (unfold CPow; omega) | exact wide_div (b := 64) (by omega) (by omega) (by decide) (by decide))
local macro_rules | `(tactic| walk_at "hp") => `(tactic| first | assumption | exact upd_same)
local macro_rules | `(tactic| walk_at "sq") => `(tactic| first | assumption | exact SqL.of (by assumption) | exact SqL.of upd_same)
local macro_rules | `(tactic| walk_at "st") => `(tactic| first
  | refine ⟨_, rfl, ?_⟩
  | (refine ⟨_, _, rfl, rfl, And.intro ?side ?_⟩; (case side => walk_at "side"))
  | refine ⟨_, _, rfl, rfl, ?_⟩
  | (refine' ⟨_, _, _, _, rfl, rfl, SqL.of ?hp, ?atx, ?_⟩; (case hp => walk_at "hp"); (case atx => exact rfl))
  | (refine' ⟨_, _, _, _, rfl, rfl, ?hp, ?atx, ?_⟩; (case hp => walk_at "hp"); (case atx => exact rfl))
  | (refine' ⟨_, _, rfl, Or.inl ?sq, ?_⟩; (case sq => walk_at "sq"))
  | refine Or.inl ⟨_, rfl, ?_⟩
  | refine Or.inr ⟨_, rfl, ?_⟩)
local macro_rules | `(tactic| walk_at "evd") => `(tactic| first
  | exact evd_int
  | exact evd_str
  | exact evd_non
  | exact evd_bl
  | exact evd_nil
  | (refine evd_cons ?_ (fun _ => ?_) <;> walk_at "evd")
  | (refine evd_tup ?_ (Nat.le_of_ble_eq_true rfl); walk_at "evd"))

section
variable {P : Program} {w : World} {K : PySem.W.Frag} {mg : Str → Option Value} {base : Heap}
theorem dp_ints {H : Hp} : ∀ {ns : List Int}, DpAll K H (ns.map V.int) (ns.map PyData.int)
  | [] => .nil
  | n :: ns => .cons (.int n) dp_ints
theorem ok_ints {ns : List Int} : okD 1 (.list (ns.map PyData.int)) := okD.list fun d hd => by
  obtain ⟨n, _, rfl⟩ := List.mem_map.mp hd
  exact ⟨rfl, Nat.le_refl _⟩
theorem ok_nil : okD 1 (.list []) := okD.list fun d hd => nomatch hd
theorem dp_pair {H : Hp} {t : Addr} {i j : Int} (h : H t = some (.tup [.int i, .int j])) : Dp K H (.ref t) (.tuple [.int i, .int j]) := .tup (SqT.of h) (.cons (.int i) (.cons (.int j) .nil))
theorem ok_pair {i j : Int} : okD 1 (.tuple [.int i, .int j]) := okD.tuple fun d hd => by
  simp only [List.mem_cons, List.not_mem_nil, or_false] at hd
  rcases hd with rfl | rfl <;> exact ⟨rfl, Nat.le_refl _⟩

/-! signs of calendars -/
theorem kept_of {A : Addr} {ds : List PyData} {c : Bool → Bool → Bool} (h : ∀ H, Dp K H (.ref A) (.tuple ds)) (s : SeqAt.shaped (.tuple ds) = true) (e : ∀ a b : Bool, (ds.any fun z => PyData.eqv z (.tuple [.bool a, .bool b])) = c a b) : Kept K A c := ⟨ds, h, s, e⟩
theorem kept_and (T : Txt K mg) : Kept K T.A_KEPT_BY_AND (fun a b => a && b) := kept_of T.D_KEPT_BY_AND rfl (by decide)
theorem kept_or (T : Txt K mg) : Kept K T.A_KEPT_BY_OR (fun a b => a || b) := kept_of T.D_KEPT_BY_OR rfl (by decide)
theorem kept_minus (T : Txt K mg) : Kept K T.A_KEPT_BY_MINUS (fun a b => a && !b) := kept_of T.D_KEPT_BY_MINUS rfl (by decide)
theorem kept_xor (T : Txt K mg) : Kept K T.A_KEPT_BY_XOR (fun a b => xor a b) := kept_of T.D_KEPT_BY_XOR rfl (by decide)
def spBin (K : PySem.W.Frag) (CC : Addr) (B M : Int) (c : Bool → Bool → Bool) : Sp := fun vs H Q _ => ∃ (x y : Addr) (f g : Int → Bool), vs = [.ref x, .ref y] ∧ CalS CC B M H x f ∧ CalS CC B M H y g ∧ 1 ≤ M ∧ B + M ≤ 1000 ∧
  ∀ z H', Same H H' → H z = none → CalS CC B M H' z (fun n => c (f n) (g n)) → Q (.ref z) H'
theorem ok_and (B M : Int) (T : Txt K mg) : FnOk P w K mg base CX0 8 T.a_Calendar___and__ T.d_Calendar___and__ ["self", "other"] (spBin K T.c_Calendar B M (fun a b => a && b)) := by
  have G__merged : FnOk P w K mg base CX0 7 T.a__merged T.d__merged ["one", "other", "kept"] (spMerged K T.c_Calendar B M) := ok_merged B M T
  refine T.F_Calendar___and__.ok sc_Calendar___and__ (fun vs H Q E h => ?_) (fun cdv A outer s H vs Q E hr h => ?_)
  · obtain ⟨x, y, f, g, rfl, _⟩ := h
    rfl
  · obtain ⟨x, y, f, g, rfl, cx, cy, M1, BM, k⟩ := h
    have nd := sc_Calendar___and__.nd
    obtain ⟨dy, gs, hy⟩ := cy.ins
    refine ⟨_, (pss_cons (ps_if (pt_not (pt_val (pe_callB call_isi (by rfl) T.z_isinstance (by decide +kernel) (pa_cons (pv 1) (pa_cons (pe_glob rfl T.m_Calendar (rel_ref _)) pa_nil))))) (pss_one ps_never) pss_nil)
    (pss_one (ps_ret (pe_call G__merged (hr.mono (by first | decide | omega)) (by rfl) T.m__merged T.k__merged T.b__merged .nil pass0 (pa_cons (pv 0) (pa_cons (pv 1) (pa_cons (pe_glob rfl T.m_KEPT_BY_AND (rel_ref _)) pa_nil))))))), ?_⟩
    refine ⟨_, rfl, _, _, _, _, _, rfl, .own _, T.I_Calendar.ty T.C_Calendar hy, kit_self, _, rfl, ifF rfl ?_⟩
    exact ⟨_, rfl, _, rfl, x, y, _, f, g, _, rfl, cx, cy, kept_and T, M1, BM, k⟩
theorem ok_or (B M : Int) (T : Txt K mg) : FnOk P w K mg base CX0 8 T.a_Calendar___or__ T.d_Calendar___or__ ["self", "other"] (spBin K T.c_Calendar B M (fun a b => a || b)) := by
  have G__merged : FnOk P w K mg base CX0 7 T.a__merged T.d__merged ["one", "other", "kept"] (spMerged K T.c_Calendar B M) := ok_merged B M T
  refine T.F_Calendar___or__.ok sc_Calendar___or__ (fun vs H Q E h => ?_) (fun cdv A outer s H vs Q E hr h => ?_)
  · obtain ⟨x, y, f, g, rfl, _⟩ := h
    rfl
  · obtain ⟨x, y, f, g, rfl, cx, cy, M1, BM, k⟩ := h
    have nd := sc_Calendar___or__.nd
    obtain ⟨dy, gs, hy⟩ := cy.ins
    refine ⟨_, (pss_cons (ps_if (pt_not (pt_val (pe_callB call_isi (by rfl) T.z_isinstance (by decide +kernel) (pa_cons (pv 1) (pa_cons (pe_glob rfl T.m_Calendar (rel_ref _)) pa_nil))))) (pss_one ps_never) pss_nil)
    (pss_one (ps_ret (pe_call G__merged (hr.mono (by first | decide | omega)) (by rfl) T.m__merged T.k__merged T.b__merged .nil pass0 (pa_cons (pv 0) (pa_cons (pv 1) (pa_cons (pe_glob rfl T.m_KEPT_BY_OR (rel_ref _)) pa_nil))))))), ?_⟩
    refine ⟨_, rfl, _, _, _, _, _, rfl, .own _, T.I_Calendar.ty T.C_Calendar hy, kit_self, _, rfl, ifF rfl ?_⟩
    exact ⟨_, rfl, _, rfl, x, y, _, f, g, _, rfl, cx, cy, kept_or T, M1, BM, k⟩
theorem ok_sub (B M : Int) (T : Txt K mg) : FnOk P w K mg base CX0 8 T.a_Calendar___sub__ T.d_Calendar___sub__ ["self", "other"] (spBin K T.c_Calendar B M (fun a b => a && !b)) := by
  have G__merged : FnOk P w K mg base CX0 7 T.a__merged T.d__merged ["one", "other", "kept"] (spMerged K T.c_Calendar B M) := ok_merged B M T
  refine T.F_Calendar___sub__.ok sc_Calendar___sub__ (fun vs H Q E h => ?_) (fun cdv A outer s H vs Q E hr h => ?_)
  · obtain ⟨x, y, f, g, rfl, _⟩ := h
    rfl
  · obtain ⟨x, y, f, g, rfl, cx, cy, M1, BM, k⟩ := h
    have nd := sc_Calendar___sub__.nd
    obtain ⟨dy, gs, hy⟩ := cy.ins
    refine ⟨_, (pss_cons (ps_if (pt_not (pt_val (pe_callB call_isi (by rfl) T.z_isinstance (by decide +kernel) (pa_cons (pv 1) (pa_cons (pe_glob rfl T.m_Calendar (rel_ref _)) pa_nil))))) (pss_one ps_never) pss_nil)
    (pss_one (ps_ret (pe_call G__merged (hr.mono (by first | decide | omega)) (by rfl) T.m__merged T.k__merged T.b__merged .nil pass0 (pa_cons (pv 0) (pa_cons (pv 1) (pa_cons (pe_glob rfl T.m_KEPT_BY_MINUS (rel_ref _)) pa_nil))))))), ?_⟩
    refine ⟨_, rfl, _, _, _, _, _, rfl, .own _, T.I_Calendar.ty T.C_Calendar hy, kit_self, _, rfl, ifF rfl ?_⟩
    exact ⟨_, rfl, _, rfl, x, y, _, f, g, _, rfl, cx, cy, kept_minus T, M1, BM, k⟩
theorem ok_xor (B M : Int) (T : Txt K mg) : FnOk P w K mg base CX0 8 T.a_Calendar___xor__ T.d_Calendar___xor__ ["self", "other"] (spBin K T.c_Calendar B M (fun a b => xor a b)) := by
  have G__merged : FnOk P w K mg base CX0 7 T.a__merged T.d__merged ["one", "other", "kept"] (spMerged K T.c_Calendar B M) := ok_merged B M T
  refine T.F_Calendar___xor__.ok sc_Calendar___xor__ (fun vs H Q E h => ?_) (fun cdv A outer s H vs Q E hr h => ?_)
  · obtain ⟨x, y, f, g, rfl, _⟩ := h
    rfl
  · obtain ⟨x, y, f, g, rfl, cx, cy, M1, BM, k⟩ := h
    have nd := sc_Calendar___xor__.nd
    obtain ⟨dy, gs, hy⟩ := cy.ins
    refine ⟨_, (pss_cons (ps_if (pt_not (pt_val (pe_callB call_isi (by rfl) T.z_isinstance (by decide +kernel) (pa_cons (pv 1) (pa_cons (pe_glob rfl T.m_Calendar (rel_ref _)) pa_nil))))) (pss_one ps_never) pss_nil)
    (pss_one (ps_ret (pe_call G__merged (hr.mono (by first | decide | omega)) (by rfl) T.m__merged T.k__merged T.b__merged .nil pass0 (pa_cons (pv 0) (pa_cons (pv 1) (pa_cons (pe_glob rfl T.m_KEPT_BY_XOR (rel_ref _)) pa_nil))))))), ?_⟩
    refine ⟨_, rfl, _, _, _, _, _, rfl, .own _, T.I_Calendar.ty T.C_Calendar hy, kit_self, _, rfl, ifF rfl ?_⟩
    exact ⟨_, rfl, _, rfl, x, y, _, f, g, _, rfl, cx, cy, kept_xor T, M1, BM, k⟩
theorem eqv_ints : ∀ (ns ms : List Int), PyData.eqvAll (ns.map PyData.int) (ms.map PyData.int) = decide (ns = ms)
  | [], [] => rfl
  | [], _ :: _ => rfl
  | _ :: _, [] => rfl
  | n :: ns, m :: ms => by
    show (PyData.eqv (.int n) (.int m) && PyData.eqvAll (ns.map PyData.int) (ms.map PyData.int)) = _
    rw [eqv_ints ns ms, show PyData.eqv (.int n) (.int m) = (n == m) from rfl]
    by_cases h : n = m
    · subst h
      by_cases h2 : ns = ms <;> simp [h2]
    · simp [h]
theorem eqv_tints {ns ms : List Int} : PyData.eqv (.tuple (ns.map PyData.int)) (.tuple (ms.map PyData.int)) = decide (ns = ms) := by
  rw [← eqv_ints]
  rfl
theorem dp_tints {H : Hp} {a : Addr} {ns : List Int} (h : H a = some (.tup (ns.map V.int))) : Dp K H (.ref a) (.tuple (ns.map PyData.int)) := .tup (SqT.of h) dp_ints
theorem ok_tints {ns : List Int} : okD 1 (.tuple (ns.map PyData.int)) := okD.tuple fun d hd => by
  obtain ⟨n, _, rfl⟩ := List.mem_map.mp hd
  exact ⟨rfl, Nat.le_refl _⟩
/-- x == v: both calendars, or v of another kind -/
def spEq (K : PySem.W.Frag) (CC : Addr) (B M : Int) : Sp := fun vs H Q _ => ∃ (x : Addr) (v : V) (f : Int → Bool), vs = [.ref x, v] ∧ CalS CC B M H x f ∧
  ((∃ y g, v = .ref y ∧ CalS CC B M H y g ∧ ∀ b : Bool, (b = true ↔ ∀ n, 1 ≤ n → f n = g n) → Q (.bl b) H) ∨ ∃ t, TyX K H v t ∧ PySem.W.kitOne K t (.ref CC) = some false ∧ Q (.bl false) H)
theorem ok_eq (B M : Int) (T : Txt K mg) : FnOk P w K mg base CX0 1 T.a_Calendar___eq__ T.d_Calendar___eq__ ["self", "other"] (spEq K T.c_Calendar B M) := by
  refine T.F_Calendar___eq__.ok sc_Calendar___eq__ (fun vs H Q E h => ?_) (fun cdv A outer s H vs Q E hr h => ?_)
  · obtain ⟨x, v, f, rfl, _⟩ := h
    rfl
  · obtain ⟨x, v, f, rfl, ⟨fs, rs, q, p, ⟨dx, gs, hx, pf, pr, e, p', rfl, lp, ls, hpr, hpf⟩, tlx, _, _, mx⟩, hv⟩ := h
    have nd := sc_Calendar___eq__.nd
    refine ⟨_, (pss_one (ps_ret (pe_and (pe_callB call_isi (by rfl) T.z_isinstance (by decide +kernel) (pa_cons (pv 1) (pa_cons (pe_glob rfl T.m_Calendar (rel_ref _)) pa_nil))) (pe_and (pe_cmpR (op_eqD hr.units) (pe_fld (pv 0) rfl) (pe_fld (pv 1) rfl) (nomark _)) (pe_and (pe_cmpR op_eq (pe_fld (pv 0) rfl) (pe_fld (pv 1) rfl) (nomark _)) (pe_and (pe_cmpR op_eq (pe_fld (pv 0) rfl) (pe_fld (pv 1) rfl) (nomark _)) (pe_one (pe_cmpR (op_eqD hr.units) (pe_fld (pv 0) rfl) (pe_fld (pv 1) rfl) (nomark _))))))))), ?_⟩
    rcases hv with ⟨y, g, rfl, ⟨FS, RS, Q', P', ⟨dy, hs, hy, qf, qr, e2, p2, rfl, lp2, ls2, hqr, hqf⟩, tly, _, _, my⟩, k⟩ | ⟨t, ty, kt, k⟩
    · have all : (∀ n, 1 ≤ n → f n = g n) ↔ (asc fs 1 e = asc FS 1 e2 ∧ e = e2 ∧ p' = p2 ∧ asc rs 0 p' = asc RS 0 p2) := by
        constructor
        · intro h
          obtain ⟨a, b, c, d⟩ := uniq lp ls tlx.r2 lp2 ls2 tly.r2 (fun n n1 => by rw [mx n n1, my n n1, h n n1])
          exact ⟨d, c, a, b⟩
        · rintro ⟨a, b, c, d⟩ n n1
          rw [← mx n n1, ← my n n1, ← mem_made lp ls tlx.r2 n1, ← mem_made lp2 ls2 tly.r2 n1, a, b, d, c]
      refine ⟨_, rfl, _, _, _, _, _, rfl, .own _, T.I_Calendar.ty T.C_Calendar hy, kit_self, _, rfl, ifT rfl ?_⟩
      refine ⟨_, rfl, x, _, dx, _, _, rfl, hx, T.C_Calendar, T.n_Calendar_few, rfl, _, rfl, y, _, dy, _, _, rfl, hy, T.C_Calendar, T.n_Calendar_few, rfl, _, _, dp_tints hpf, dp_tints hqf, ok_tints.shaped (by decide), ok_tints.shaped (by decide), _, rfl, ?_⟩
      rw [eqv_tints]
      refine ifD (fun e0 => ?_) (fun e0 => k false ⟨fun z => (nomatch z), fun z => absurd (all.mp z).1 e0⟩)
      refine ⟨_, rfl, x, _, dx, _, _, rfl, hx, T.C_Calendar, T.n_Calendar_start, rfl, _, rfl, y, _, dy, _, _, rfl, hy, T.C_Calendar, T.n_Calendar_start, rfl, rfl, _, rfl, ?_⟩
      rw [dec_int]
      refine ifB (fun e1 => ?_) (fun e1 => k false ⟨fun z => (nomatch z), fun z => absurd (all.mp z).2.1 (by simpa using e1)⟩)
      have e1 := of_decide_eq_true (show decide (e = e2) = true by simpa using e1)
      refine ⟨_, rfl, x, _, dx, _, _, rfl, hx, T.C_Calendar, T.n_Calendar_period, rfl, _, rfl, y, _, dy, _, _, rfl, hy, T.C_Calendar, T.n_Calendar_period, rfl, rfl, _, rfl, ?_⟩
      rw [dec_int]
      refine ifB (fun e2 => ?_) (fun e2 => k false ⟨fun z => (nomatch z), fun z => absurd (all.mp z).2.2.1 (by simpa using e2)⟩)
      have e2 := of_decide_eq_true (show decide (p' = p2) = true by simpa using e2)
      refine ⟨_, rfl, x, _, dx, _, _, rfl, hx, T.C_Calendar, T.n_Calendar_rests, rfl, _, rfl, y, _, dy, _, _, rfl, hy, T.C_Calendar, T.n_Calendar_rests, rfl, _, _, dp_tints hpr, dp_tints hqr, ok_tints.shaped (by decide), ok_tints.shaped (by decide), ?_⟩
      rw [eqv_tints]
      exact k _ ⟨fun z => all.mpr ⟨e0, e1, e2, of_decide_eq_true z⟩, fun z => decide_eq_true (all.mp z).2.2.2⟩
    · exact ⟨_, rfl, _, _, _, _, _, rfl, .own _, ty, kt, _, rfl, ifF rfl k⟩

/-! sets compared -/
def SubF (f g : Int → Bool) : Prop := ∀ n, 1 ≤ n → f n = true → g n = true
def SameF (f g : Int → Bool) : Prop := ∀ n, 1 ≤ n → f n = g n
theorem sub_minus {f g : Int → Bool} : (∀ n, 1 ≤ n → (f n && !g n) = false) ↔ SubF f g := by
  constructor
  · intro h n n1 hf
    have := h n n1
    rw [hf] at this
    simpa using this
  · intro h n n1
    cases hf : f n with
    | false => rfl
    | true => rw [h n n1 hf]; rfl
def spCmp (K : PySem.W.Frag) (CC : Addr) (B M : Int) (R : (Int → Bool) → (Int → Bool) → Prop) : Sp := fun vs H Q _ => ∃ (x y : Addr) (f g : Int → Bool), vs = [.ref x, .ref y] ∧ CalS CC B M H x f ∧ CalS CC B M H y g ∧ 1 ≤ M ∧ B + M ≤ 1000 ∧
  ∀ (b : Bool) H', Same H H' → (b = true ↔ R f g) → Q (.bl b) H'

end
end K32
namespace K32
open PySem PySem.Spec PyProof.Rows L2 Rs LamX NdefX
local macro_rules | `(tactic| walk_at "om") => `(tactic| first | omega | (dsimp only; omega))
local macro_rules | `(tactic| walk_at "side") => `(tactic| first | omega | (dsimp only; omega) | decide | (unfold CMul; omega) | (unfold CDiv; omega) | (unfold CPow; omega) | exact wide_div (b := 64) (by omega) (by omega) (by decide) (by decide))
local macro_rules | `(tactic| walk_at "hp") => `(tactic| first | assumption | exact upd_same)
local macro_rules | `(tactic| walk_at "sq") => `(tactic| first | assumption | exact SqL.of (by assumption) | exact SqL.of upd_same)
local macro_rules | `(tactic| walk_at "st") => `(tactic| first
  | refine ⟨_, rfl, ?_⟩
  | (refine ⟨_, _, rfl, rfl, And.intro ?side ?_⟩; (case side => walk_at "side"))
  | refine ⟨_, _, rfl, rfl, ?_⟩
  | (refine' ⟨_, _, _, _, rfl, rfl, SqL.of ?hp, ?atx, ?_⟩; (case hp => walk_at "hp"); (case atx => exact rfl))
  | (refine' ⟨_, _, _, _, rfl, rfl, ?hp, ?atx, ?_⟩; (case hp => walk_at "hp"); (case atx => exact rfl))
  | (refine' ⟨_, _, rfl, Or.inl ?sq, ?_⟩; (case sq => walk_at "sq"))
  | refine Or.inl ⟨_, rfl, ?_⟩
  | refine Or.inr ⟨_, rfl, ?_⟩)
local macro_rules | `(tactic| walk_at "evd") => `(tactic| first
  | exact evd_int
  | exact evd_str
  | exact evd_non
  | exact evd_bl
  | exact evd_nil
  | (refine evd_cons ?_ (fun _ => ?_) <;> walk_at "evd")
  | (refine evd_tup ?_ (Nat.le_of_ble_eq_true rfl); walk_at "evd"))

section
variable {P : Program} {w : World} {K : PySem.W.Frag} {mg : Str → Option Value} {base : Heap}
/-! least, size, share: what they are of -/
theorem asc_sorted {ns : List Int} {lo hi : Int} : (asc ns lo hi).Pairwise (· < ·) := by
  unfold asc ascN
  exact (List.Pairwise.map _ (fun a b h => by omega) List.pairwise_lt_range).filter _
theorem sorted_head {R : List Int} {y : Int} {t : List Int} (h : R.Pairwise (· < ·)) (e : R = y :: t) : y ∈ R ∧ ∀ r ∈ R, y ≤ r := by
  subst e
  refine ⟨List.mem_cons_self, fun r hr => ?_⟩
  rcases List.mem_cons.mp hr with e | e
  · omega
  · have := (List.pairwise_cons.mp h).1 r e
    omega
theorem least_tail {R : List Int} {e p f : Int} (hp : 1 ≤ p) (hR : ∀ r ∈ R, 0 ≤ r ∧ r < p)
    (hf : (f ∈ R ∧ e % p ≤ f ∧ ∀ r ∈ R, e % p ≤ r → f ≤ r) ∨ ∃ g, f = g + p ∧ g ∈ R ∧ (∀ r ∈ R, g ≤ r) ∧ ∀ r ∈ R, r < e % p) :
    (e + f - e % p) % p ∈ R ∧ e ≤ e + f - e % p ∧ ∀ n, e ≤ n → n < e + f - e % p → n % p ∉ R := by
  have s0 := Int.emod_nonneg e (show p ≠ 0 by omega)
  have s1 := Int.emod_lt_of_pos e (show 0 < p by omega)
  have de := Int.emod_add_mul_ediv e p
  have em : (e + f - e % p) % p = f % p := by
    rw [show e + f - e % p = f + p * (e / p) by omega]
    exact Int.add_mul_emod_self_left f p (e / p)
  have en : ∀ n, n % p = (e % p + (n - e)) % p := fun n => by
    rw [Int.emod_add_emod]
    congr 1
    omega
  rcases hf with ⟨h1, h2, h3⟩ | ⟨g, rfl, h1, h2, h3⟩
  · have b := hR f h1
    refine ⟨by rw [em, Int.emod_eq_of_lt b.1 b.2]; exact h1, by omega, fun n n1 n2 hn => ?_⟩
    rw [en n, Int.emod_eq_of_lt (by omega) (by omega)] at hn
    have := h3 _ hn (by omega)
    omega
  · have b := hR g h1
    refine ⟨by rw [em, Int.add_emod_right, Int.emod_eq_of_lt b.1 b.2]; exact h1, by omega, fun n n1 n2 hn => ?_⟩
    rw [en n] at hn
    by_cases c : e % p + (n - e) < p
    · rw [Int.emod_eq_of_lt (by omega) c] at hn
      have := h3 _ hn
      omega
    · rw [show e % p + (n - e) = (e % p + (n - e) - p) + p by omega, Int.add_emod_right, Int.emod_eq_of_lt (by omega) (by omega)] at hn
      have := h2 _ hn
      omega
theorem asc_bounds {ns : List Int} {lo hi : Int} : ∀ r ∈ asc ns lo hi, lo ≤ r ∧ r < hi := fun r hr => (mem_asc.mp hr).2
/-- the least integer from 1 on that has P, or None -/
def LeastOf (P : Int → Bool) (v : V) : Prop := (∃ m, v = .int m ∧ 1 ≤ m ∧ P m = true ∧ ∀ n, 1 ≤ n → n < m → P n = false) ∨ (v = .non ∧ ∀ n, 1 ≤ n → P n = false)
theorem asc_split {ns : List Int} {lo mid hi : Int} (h1 : lo ≤ mid) (h2 : mid ≤ hi) : asc ns lo hi = asc ns lo mid ++ asc ns mid hi := by
  unfold asc ascN
  rw [show (hi - lo).toNat = (mid - lo).toNat + (hi - mid).toNat by omega, List.range_add, List.map_append, List.filter_append, List.map_map]
  congr 2
  refine List.map_congr_left fun k hk => ?_
  show lo + (((mid - lo).toNat + k : Nat) : Int) = mid + (k : Nat)
  omega
theorem rests_empty {q p : Int} {rs : List Int} (lp : LeastP q rs p) (hb : ∀ r ∈ rs, 0 ≤ r ∧ r < q) : asc rs 0 p = [] ↔ rs = [] := by
  constructor
  · intro h
    match rs, hb with
    | [], _ => rfl
    | r :: t, hb =>
      have b := hb r List.mem_cons_self
      have z := (per_mem lp hb r).mpr (by rw [Int.emod_eq_of_lt b.1 b.2]; exact List.mem_cons_self)
      rw [h] at z
      cases z
  · intro h
    subst h
    cases e : asc [] 0 p with
    | nil => rfl
    | cons y t =>
      have z := (mem_asc.mp (show y ∈ asc [] 0 p by rw [e]; exact List.mem_cons_self)).1
      cases z
theorem few_same {fs : List Int} {q p e : Int} (ls : LeastS fs q p [] e) : asc fs 1 e = asc fs 1 q := by
  rw [asc_split (lo := 1) (mid := e) (hi := q) ls.e1 ls.le]
  have z : asc fs e q = [] := by
    cases h : asc fs e q with
    | nil => rfl
    | cons y t =>
      have b := mem_asc.mp (show y ∈ asc fs e q by rw [h]; exact List.mem_cons_self)
      have s := ls.same y b.2.1 b.2.2
      rw [decide_eq_true b.1, decide_eq_false (show ¬ y % p ∈ ([] : List Int) by simp)] at s
      cases s
  rw [z, List.append_nil]
/-! how many -/
theorem count_rep {f : Nat → Bool} {m : Nat} (h : ∀ i j, f (j * m + i) = f i) : ∀ j, List.countP f (List.range (j * m)) = j * List.countP f (List.range m)
  | 0 => by simp
  | j + 1 => by
    rw [Nat.add_mul, Nat.one_mul, List.range_add, List.countP_append, count_rep h j, List.countP_map, Nat.add_mul, Nat.one_mul]
    congr 1
    refine List.countP_congr fun i _ => ?_
    show f (j * m + i) = true ↔ f i = true
    rw [h i j]
theorem asc_count {ns : List Int} {p : Int} : (asc ns 0 p).length = List.countP (fun i : Nat => decide (((i : Nat) : Int) ∈ ns)) (List.range p.toNat) := by
  unfold asc ascN
  rw [← List.countP_eq_length_filter, List.countP_map, show p - 0 = p by omega]
  refine List.countP_congr fun i _ => ?_
  show decide ((0 : Int) + (i : Nat) ∈ ns) = true ↔ decide (((i : Nat) : Int) ∈ ns) = true
  rw [Int.zero_add]
theorem many_times {q p : Int} {rs : List Int} (q1 : 1 ≤ q) (lp : LeastP q rs p) (hb : ∀ r ∈ rs, 0 ≤ r ∧ r < q) : ∃ k : Nat, 1 ≤ k ∧ q = k * p ∧ (asc rs 0 q).length = k * (asc rs 0 p).length := by
  have p1 := lp.p1
  have dv : q % p = 0 := by
    rcases lp.ok with rfl | ok
    · exact Int.emod_self
    · exact (perOk_split ok).1
  obtain ⟨c, hc⟩ := Int.dvd_of_emod_eq_zero dv
  have c1 : 1 ≤ c := by
    by_cases h : 1 ≤ c
    · exact h
    · have : p * c ≤ 0 := Int.mul_nonpos_of_nonneg_of_nonpos (by omega) (by omega)
      omega
  refine ⟨c.toNat, by omega, by rw [Int.toNat_of_nonneg (by omega), Int.mul_comm]; exact hc, ?_⟩
  have e1 : q.toNat = c.toNat * p.toNat := by
    have : q = ((c.toNat * p.toNat : Nat) : Int) := by
      rw [Int.natCast_mul, Int.toNat_of_nonneg (by omega), Int.toNat_of_nonneg (by omega), Int.mul_comm]
      exact hc
    omega
  have f1 : ∀ n : Nat, n < q.toNat → (decide (((n : Nat) : Int) ∈ rs) = decide (((n : Nat) : Int) % p ∈ asc rs 0 p)) := fun n hn => by
    refine decide_eq_decide.mpr ?_
    rw [per_mem lp hb, Int.emod_eq_of_lt (by omega) (by omega)]
  have f2 : ∀ n : Nat, n < p.toNat → (decide (((n : Nat) : Int) ∈ rs) = decide (((n : Nat) : Int) % p ∈ asc rs 0 p)) := fun n hn => f1 n (by have := lp.le; omega)
  rw [asc_count, asc_count, List.countP_congr (fun n hn => by rw [f1 n (List.mem_range.mp hn)]), e1, count_rep, List.countP_congr (l := List.range p.toNat) (fun n hn => by rw [← f2 n (List.mem_range.mp hn)])]
  intro i j
  refine decide_eq_decide.mpr ?_
  rw [show (((j * p.toNat + i : Nat)) : Int) = (i : Int) + p * (j : Int) by rw [Int.natCast_add, Int.natCast_mul, Int.toNat_of_nonneg (by omega), Int.mul_comm]; omega, Int.add_mul_emod_self_left]
/-- the part in lowest terms -/
def lowest (c p : Nat) : Nat × Nat := (c / Nat.gcd c p, p / Nat.gcd c p)
theorem lowest_times {c p k : Nat} (hk : 1 ≤ k) : lowest (k * c) (k * p) = lowest c p := by
  unfold lowest
  rw [Nat.mul_comm k c, Nat.mul_comm k p, Nat.gcd_mul_right, Nat.mul_div_mul_right _ _ (by omega), Nat.mul_div_mul_right _ _ (by omega)]

/-! ~c -/
def notFlags (fs rs : List Int) (q p : Int) (k : Nat) : List Bool := (flagsOf fs rs q p k).map fun b => !b
/-- what ~c is told by: start and period are those of c -/
def spInv (K : PySem.W.Frag) (CC : Addr) : Sp := fun vs H Q _ => ∃ (x : Addr) (fs rs : List Int) (q p : Int), vs = [.ref x] ∧ CalO CC H x fs rs q p ∧ TellI fs rs q p ∧ q + p ≤ 1000 ∧
  ∀ y H' e p' bs, Same H H' → H y = none → 1 ≤ e → e ≤ q → 1 ≤ p' → p' ≤ p → LeastP p rs p' → LeastS fs q p' (asc rs 0 p') e → bs = notFlags fs rs q p (e + p' - 1).toNat → CalO CC H' y (fewOf bs (bs.length - p').toNat) (restsOf bs (bs.length - p' + 1) p' p'.toNat) (bs.length - p' + 1) p' → Q (.ref y) H'
theorem flags_len {fs rs : List Int} {q p : Int} {k : Nat} : (flagsOf fs rs q p k).length = k := by
  unfold flagsOf
  rw [List.length_map, List.length_range]
/-- [not b for b in L] -/
theorem lnot {K : PySem.W.Frag} {L : Addr} {bs : List Bool} {te : TE} {sl : Nat} {σ : L2.St} {H : Hp} {Q : VK} (hte : ∀ R : VK, R (.ref L) H → te σ H R) (hL : H L = some (.lst (bs.map V.bl))) (hl : sl < σ.length) (ln : bs.length ≤ 3000)
    (k : ∀ D H', H D = none → Same H H' → H' D = some (.lst ((bs.map fun b => !b).map V.bl)) → Q (.ref D) H') : tLc (iList K te) (gName sl) tYes (tNotV (tVar sl)) [sl] σ H Q := by
  refine hte _ ⟨L, rfl, ⟨_, SqL.of hL⟩, fun D hD => lc_it walk_list (fun i Hc => Hc D = some (.lst (((bs.take i).map fun b => !b).map V.bl)) ∧ Same H Hc) ⟨upd_same, same_new hD⟩ (fun i Hc _ hR => hR.2.seq (SqL.of hL)) (fun j x Hc H' hj hR hy => ?_) (fun Hc hR => ?_)⟩
  · obtain ⟨rfl, hx⟩ := hy
    obtain ⟨hDc, sc⟩ := hR
    rw [List.getElem?_map] at hx
    obtain ⟨b, hb, rfl⟩ := Option.map_eq_some_iff.mp hx
    refine ⟨by simp [wipe, List.set_set], ?_⟩
    dsimp only [tYes]
    rw [if_pos rfl]
    refine ⟨.bl b, by simp [wipe, List.getElem?_set, hl], b, rfl, _, hDc, ?_, ?_, same_lst sc hD⟩
    · rw [List.length_map, List.length_map, List.length_take]
      exact szL2 (by omega)
    · rw [upd_same, take_snoc hb, List.map_append, List.map_append]
      rfl
  · rw [List.length_map, List.take_length] at hR
    exact k D Hc hD hR.2 hR.1
theorem ok_inv (T : Txt K mg) : FnOk P w K mg base CX0 7 T.a_Calendar___invert__ T.d_Calendar___invert__ ["self"] (spInv K T.c_Calendar) := by
  have G__flags_of : FnOk P w K mg base CX0 1 T.a__flags_of T.d__flags_of ["calendar", "end"] (spFlags K T.c_Calendar) := ok_flags T
  have G_calendar_from : FnOk P w K mg base CX0 6 T.a_calendar_from T.d_calendar_from ["flags", "period"] (spFrom T.c_Calendar) := ok_from T
  refine T.F_Calendar___invert__.ok sc_Calendar___invert__ (fun vs H Q E h => ?_) (fun cdv A outer s H vs Q E hr h => ?_)
  · obtain ⟨x, fs, rs, q, p, rfl, _⟩ := h
    rfl
  · obtain ⟨x, fs, rs, q, p, rfl, co, tl, qp, k⟩ := h
    have nd := sc_Calendar___invert__.nd
    obtain ⟨dx, gs, hx, pf, pr, e, p', rfl, lp, ls, hpr, hpf⟩ := id co
    have p1 := lp.p1
    have p2 := lp.le
    have s1 := ls.e1
    have s2 := ls.le
    refine ⟨_, (pss_cons (ps_set (i := 1) nd rfl (Or.inl rfl) (pe_call G__flags_of (hr.mono (by first | decide | omega)) (by rfl) T.m__flags_of T.k__flags_of T.b__flags_of .nil pass0 (pa_cons (pv 0) (pa_cons (pe_op op_add (pe_fld (pv 0) rfl) (pe_fld (pv 0) rfl)) pa_nil))))
    (pss_one (ps_ret (pe_call G_calendar_from (hr.mono (by first | decide | omega)) (by rfl) T.m_calendar_from T.k_calendar_from T.b_calendar_from .nil pass0 (pa_cons (pe_lc (own := [("flag", 2)]) (g := (gName 2)) (by rfl) nd (pi_list (pv 1)) (blkOk_by (N := ["self", "flags", "flag"]) (sc := defScope s_Calendar___invert__) (own := [("flag", 2)]) (by decide +kernel)) (fun _ _ _ _ _ => by exact (pg_name (i := 2) nd rfl (Or.inl rfl))) (fun _ _ _ _ _ => by exact pts_nil) (fun _ _ _ _ _ => by exact (pe_not (pv 2)))) (pa_cons (pe_fld (pv 0) rfl) pa_nil)))))), ?_⟩
    refine ⟨_, rfl, _, rfl, x, _, dx, _, _, rfl, hx, T.C_Calendar, T.n_Calendar_start, rfl, _, rfl, x, _, dx, _, _, rfl, hx, T.C_Calendar, T.n_Calendar_period, rfl, e, p', rfl, rfl, x, e + p', fs, rs, q, p, rfl, co, tl, by omega, by omega, fun L H1 s1' nL hL => ?_⟩
    dsimp only [gName]
    refine retc_go (lnot (sl := 2) (fun R h => ⟨_, rfl, h⟩) hL (Nat.le_of_ble_eq_true rfl) (by rw [flags_len]; omega) (fun D H2 hD s2' hD2 => ?_))
    have s02 := s1'.trans s2'
    have lb : (notFlags fs rs q p (e + p' - 1).toNat).length = (e + p' - 1).toNat := by
      unfold notFlags
      rw [List.length_map, flags_len]
    refine ⟨_, rfl, x, _, dx, _, _, rfl, s02 _ _ hx, T.C_Calendar, T.n_Calendar_period, rfl, D, notFlags fs rs q p (e + p' - 1).toNat, p', rfl, hD2, p1, by rw [lb]; omega, by rw [lb]; omega, fun y H3 s3 ny co3 => ?_⟩
    exact k y H3 e p' _ (s02.trans s3) (s02.free ny) s1 s2 p1 p2 lp ls rfl co3

/-! ~, share and least of calendars as sets -/
def spInvS (K : PySem.W.Frag) (CC : Addr) (B M : Int) : Sp := fun vs H Q _ => ∃ (x : Addr) (f : Int → Bool), vs = [.ref x] ∧ CalS CC B M H x f ∧ 1 ≤ M ∧ B + M ≤ 1000 ∧
  ∀ z H', Same H H' → H z = none → CalS CC B M H' z (fun n => !f n) → Q (.ref z) H'
theorem ok_invS (B M : Int) (T : Txt K mg) : FnOk P w K mg base CX0 7 T.a_Calendar___invert__ T.d_Calendar___invert__ ["self"] (spInvS K T.c_Calendar B M) := by
  refine FnOk.imp (ok_inv T) (fun vs H Q E h => ?_)
  obtain ⟨x, f, rfl, ⟨fs, rs, q, p, co, tl, qB, pM, mx⟩, M1, BM, k⟩ := h
  have q1 := tl.q1
  have p1 := tl.p1
  have pl := Int.le_of_dvd (by omega) pM
  refine ⟨x, fs, rs, q, p, rfl, co, tl, by omega, fun y H' e p' bs s ny e1 e2 p1' p2' lp ls eb co' => k y H' s ny ?_⟩
  have eb' : bs = (List.range (e + p' - 1).toNat).map fun i : Nat => (fun n => !f n) (1 + (i : Int)) := by
    rw [eb]
    unfold notFlags
    rw [flagsOf_eq mx, List.map_map]
    rfl
  have lb : bs.length = (e + p' - 1).toNat := by
    rw [eb', List.length_map, List.length_range]
  refine ⟨_, _, _, _, co', told_from p1' (by rw [lb]; omega) (by rw [lb]; omega), by rw [lb]; omega, Int.dvd_trans lp.dvd pM, fun n n1 => ?_⟩
  refine mem_from (h := fun n => !f n) (hl := fun n => !decide (n % p' ∈ asc rs 0 p')) eb' p1' (by omega) rfl (fun n => ?_) (fun n hn => ?_) n1
  · show (!decide (n % p' % p' ∈ _)) = _
    rw [Int.emod_emod]
  · rw [lb] at hn
    show (!f n) = _
    rw [← mx n (by omega), mem_late lp ls tl.r2 (by omega) (by omega)]

theorem small_int {i : Int} (h0 : 0 ≤ i) (h1 : i < 10 ^ 9) : i.natAbs.log2 < 1920 ∧ (Str.ofString (toString i)).length ≤ 13 ∧ PyData.weight (.int i) ≤ 31 := by
  have hn : i.natAbs < 10 ^ 9 := by omega
  have h2 : i.natAbs.log2 < 30 := by
    by_cases z : i.natAbs = 0
    · rw [z]; decide
    · exact (Nat.log2_lt z).mpr (by omega)
  refine ⟨by omega, ?_, ?_⟩
  · have e := int_text_length_le10 (k := 9) (by decide) hn
    rw [PySem.ofString_length]
    omega
  · unfold PyData.weight
    split
    · omega
    · omega
structure Shows (d : PyData) : Prop where
  sh : d.showable = true
  nd : d.hasDict = false
  dp : d.depth ≤ 60
  ln : d.shown.length ≤ sizeLine
  lay : d.canLay0 = true
theorem Shows.shaped {d : PyData} (h : Shows d) : SeqAt.shaped d = true := by
  unfold SeqAt.shaped
  rw [h.lay, decide_eq_true (Nat.le_trans h.dp (by decide))]; rfl
theorem shows_none : Shows .none := ⟨by decide +kernel, by decide +kernel, by decide +kernel, by decide +kernel, by decide +kernel⟩
theorem shows_int {i : Int} (h0 : 0 ≤ i) (h1 : i < 10 ^ 9) : Shows (.int i) := by
  obtain ⟨ta, tb, tc⟩ := small_int h0 h1
  refine ⟨decide_eq_true ta, rfl, by show 0 ≤ 60; decide, ?_, rfl⟩
  have h := PyData.shown_le 13 (by decide) (.int i) (decide_eq_true tb)
  have e := sizeLine_eq
  omega
theorem shows_pair {i j : Int} (i0 : 0 ≤ i) (i1 : i < 10 ^ 9) (j0 : 0 ≤ j) (j1 : j < 10 ^ 9) : Shows (.tuple [.int i, .int j]) := by
  obtain ⟨ta, tb, tc⟩ := small_int i0 i1
  obtain ⟨ma, mb, mc⟩ := small_int j0 j1
  refine ⟨?_, rfl, by show max 0 (max 0 0) + 1 ≤ 60; decide, ?_, rfl⟩
  · show (true && (decide (i.natAbs.log2 < 1920) && (decide (j.natAbs.log2 < 1920) && true))) = true
    rw [decide_eq_true ta, decide_eq_true ma]
    rfl
  · have h := PyData.shown_le 13 (by decide) (.tuple [.int i, .int j]) (by
      show (decide ((Str.ofString (toString i)).length ≤ 13) && (decide ((Str.ofString (toString j)).length ≤ 13) && true)) = true
      rw [decide_eq_true tb, decide_eq_true mb]
      rfl)
    have w : PyData.weight (.tuple [.int i, .int j]) = PyData.weight (.int i) + 1 + (PyData.weight (.int j) + 1 + 0) := rfl
    have e := sizeLine_eq
    omega

/-! texts of calendars -/
def spSpaced (K : PySem.W.Frag) : Sp := fun vs H Q _ => ∃ (a : Addr) (ns : List Int), vs = [.ref a] ∧ SqT K H a (ns.map V.int) ∧ Small ns ∧ ns.length ≤ 1000 ∧ ∀ H', Same H H' → Q (.str (spaced ns)) H'
theorem ok_spaced (T : Txt K mg) : FnOk P w K mg base CX0 1 T.a__spaced T.d__spaced ["numbers"] (spSpaced K) := by
  refine T.F__spaced.ok sc__spaced (fun vs H Q E h => ?_) (fun cdv A outer s H vs Q E hr h => ?_)
  · obtain ⟨a, ns, rfl, _⟩ := h
    rfl
  · obtain ⟨a, ns, rfl, hS, sm, ln, k⟩ := h
    have nd := sc__spaced.nd
    refine ⟨_, (pss_one (ps_ret (pe_join pe_str (pe_lc (own := [("n", 1)]) (g := (gName 1)) (by rfl) nd (pi_tup (pv 0)) (blkOk_by (N := ["numbers", "n"]) (sc := defScope s__spaced) (own := [("n", 1)]) (by decide +kernel)) (fun _ _ _ _ _ => by exact (pg_name (i := 1) nd rfl (Or.inl rfl))) (fun _ _ _ _ _ => by exact pts_nil) (fun _ _ _ _ _ => by exact (pe_callTy call_str_int (by rfl) T.z_str (by decide +kernel) (pa_cons (pv 1) pa_nil))))))), ?_⟩
    refine ⟨⟨_, rfl⟩, ?_⟩
    refine lmapT (sl := 1) (fun n => .str (nS n)) (fun R h => ⟨_, rfl, h⟩) hS (by omega) (fun n hn Hc R sc hR => ?_) (fun D H' nD s' hD => ?_)
    · have := sm n hn
      exact ⟨_, rfl, _, rfl, (small_int this.1 this.2).1, hR⟩
    · have e : ns.map (fun n => V.str (nS n)) = (ns.map nS).map V.str := by rw [List.map_map]; rfl
      rw [e] at hD
      have sl := sum_len sm
      have bl : blank.length = 1 := by decide
      exact ⟨blank, D, _, rfl, rfl, .inl (SqL.of hD), by rw [bl, List.length_map]; omega, k H' s'⟩
def spText (K : PySem.W.Frag) : Sp := fun vs H Q _ => ∃ (a c : Addr) (fs rs : List Int) (e p : Int), vs = [.ref a, .int e, .int p, .ref c] ∧ SqT K H a (fs.map V.int) ∧ SqT K H c (rs.map V.int) ∧ Small fs ∧ Small rs ∧ fs.length ≤ 1000 ∧ rs.length ≤ 1000 ∧ 0 ≤ e ∧ e < 10 ^ 9 ∧ 0 ≤ p ∧ p < 10 ^ 9 ∧
  ∀ H', Same H H' → Q (.str (calText fs e p rs)) H'
theorem ok_text (T : Txt K mg) : FnOk P w K mg base CX0 2 T.a__text T.d__text ["few", "start", "period", "rests"] (spText K) := by
  have G__spaced : FnOk P w K mg base CX0 1 T.a__spaced T.d__spaced ["numbers"] (spSpaced K) := ok_spaced T
  refine T.F__text.ok sc__text (fun vs H Q E h => ?_) (fun cdv A outer s H vs Q E hr h => ?_)
  · obtain ⟨a, c, fs, rs, e, p, rfl, _⟩ := h
    rfl
  · obtain ⟨a, c, fs, rs, e, p, rfl, hF, hR, sf, sr, lf, lr, e0, e1, p0, p1, k⟩ := h
    have nd := sc__text.nd
    refine ⟨_, (pss_cons (ps_set (i := 4) nd rfl (Or.inl rfl) (pe_ifExp (pt_cmpR op_gt (pe_callB call_len_seq (by rfl) T.z_len (by decide +kernel) (pa_cons (pv 0) pa_nil)) pe_int (nomark _)) (pe_call G__spaced (hr.mono (by first | decide | omega)) (by rfl) T.m__spaced T.k__spaced T.b__spaced .nil pass0 (pa_cons (pv 0) pa_nil)) pe_str))
    (pss_one (ps_ret (pe_ifExp (pt_cmpR op_gt (pe_callB call_len_seq (by rfl) T.z_len (by decide +kernel) (pa_cons (pv 3) pa_nil)) pe_int (nomark _)) (pe_joined (.cons (pe_fmt (pv 4)) (.cons pe_str (.cons (pe_fmt (pv 1)) (.cons pe_str (.cons (pe_fmt (pv 2)) (.cons pe_str (.cons (pe_fmt (pe_call G__spaced (hr.mono (by first | decide | omega)) (by rfl) T.m__spaced T.k__spaced T.b__spaced .nil pass0 (pa_cons (pv 3) pa_nil))) .nil)))))))) (pv 4))))), ?_⟩
    have fl : (front fs).length ≤ 20000 := by
      unfold front
      split
      · decide
      · have := spaced_len sf
        omega
    refine asg_go (val_same (v := .str (front fs)) (fun R hR' => ?_) fun H1 s1 => ?_)
    · refine ⟨_, rfl, a, _, rfl, .inr hF, _, _, rfl, rfl, _, rfl, ?_⟩
      rw [List.length_map]
      unfold front at hR'
      by_cases h0 : fs = []
      · rw [if_pos h0] at hR'
        refine ifF (by rw [h0]; rfl) (hR' H (Same.refl _))
      · rw [if_neg h0] at hR'
        have : 0 < fs.length := List.length_pos_iff.mpr h0
        exact ifT (decide_eq_true (by omega)) ⟨_, rfl, a, fs, rfl, hF, sf, lf, hR'⟩
    dsimp only [gName]
    refine ⟨_, rfl, c, _, rfl, .inr ((Fz.of_same s1).sqT hR), _, _, rfl, rfl, _, rfl, ?_⟩
    rw [List.length_map]
    by_cases h0 : rs = []
    · refine ifF (by rw [h0]; rfl) ⟨_, rfl, ?_⟩
      have := k H1 s1
      unfold calText at this
      rw [if_pos h0] at this
      exact this
    · have hp : 0 < rs.length := List.length_pos_iff.mpr h0
      refine ifT (decide_eq_true (by omega)) ?_
      have e9 := sizeLine_eq
      have l1 := nS_len e0 e1
      have l2 := nS_len p0 p1
      have l3 := spaced_len sr
      have w1 : (Str.ofString " from ").length = 6 := by decide
      have w2 : (Str.ofString " of ").length = 4 := by decide
      have w3 : (Str.ofString ": ").length = 2 := by decide
      have w0 : Str.empty.length = 0 := rfl
      have g1 : e.natAbs.log2 < 1920 := (small_int e0 e1).1
      have g2 : p.natAbs.log2 < 1920 := (small_int p0 p1).1
      have l1' : (Str.ofString (toString e)).length ≤ 10 := l1
      have l2' : (Str.ofString (toString p)).length ≤ 10 := l2
      refine ⟨_, rfl, .inl ⟨_, rfl, by omega, _, rfl, by simp only [Str.length_append]; omega, ?_⟩⟩
      refine ⟨_, rfl, by simp only [Str.length_append]; omega, ?_⟩
      refine ⟨_, rfl, .inr ⟨_, rfl, g1, _, rfl, by simp only [Str.length_append]; omega, ?_⟩⟩
      refine ⟨_, rfl, by simp only [Str.length_append]; omega, ?_⟩
      refine ⟨_, rfl, .inr ⟨_, rfl, g2, _, rfl, by simp only [Str.length_append]; omega, ?_⟩⟩
      refine ⟨_, rfl, by simp only [Str.length_append]; omega, ?_⟩
      refine ⟨_, rfl, c, rs, rfl, (Fz.of_same s1).sqT hR, sr, lr, fun H2 s2 => .inl ⟨_, rfl, by omega, _, rfl, by simp only [Str.length_append]; omega, ?_⟩⟩
      have := k H2 (s1.trans s2)
      unfold calText at this
      rw [if_neg h0] at this
      show Q (.str (Str.empty ++ front fs ++ Str.ofString " from " ++ nS e ++ Str.ofString " of " ++ nS p ++ Str.ofString ": " ++ spaced rs)) H2
      simp only [Str.append_assoc, Str.empty_append]
      exact this
/-- y is the text of the set of f -/
def TextOf (f : Int → Bool) (y : Str) : Prop := ∃ (fs rs : List Int) (q p e p' : Int), LeastP p rs p' ∧ LeastS fs q p' (asc rs 0 p') e ∧ TellI fs rs q p ∧ (∀ n, 1 ≤ n → memC fs q p rs n = f n) ∧ y = calText (asc fs 1 e) e p' (asc rs 0 p')
theorem asc_small {ns : List Int} {lo hi : Int} (h0 : 0 ≤ lo) (h1 : hi ≤ 1000) : Small (asc ns lo hi) := fun n hn => by
  have := (mem_asc.mp hn).2
  omega
theorem few_tail {fs : List Int} {e n p : Int} : (if n < e then decide (n ∈ asc fs 1 e) else decide (n % p ∈ ([] : List Int))) = decide (n ∈ asc fs 1 e) := by
  by_cases h : n < e
  · rw [if_pos h]
  · rw [if_neg h]
    have : ¬ n ∈ asc fs 1 e := fun z => by
      have := (mem_asc.mp z).2
      omega
    rw [decide_eq_false this]
    rfl
theorem text_iff {f g : Int → Bool} {y z : Str} (hf : TextOf f y) (hg : TextOf g z) : y = z ↔ SameF f g := by
  obtain ⟨fs, rs, q, p, e, p', lp, ls, tl, m, rfl⟩ := hf
  obtain ⟨FS, RS, Q, P, E, P', lp2, ls2, tl2, m2, rfl⟩ := hg
  have a1 := lp.p1
  have a2 := lp.le
  have a3 := tl.p2
  have b1 := lp2.p1
  have b2 := lp2.le
  have b3 := tl2.p2
  have c1 := ls.e1
  have c2 := ls.le
  have c3 := tl.q2
  have d1 := ls2.e1
  have d2 := ls2.le
  have d3 := tl2.q2
  constructor
  · intro h n n1
    obtain ⟨e1, e2, e3⟩ := calText_inj (asc_small (by decide) (by omega)) (asc_small (by decide) (by omega)) (asc_small (by decide) (by omega)) (asc_small (by decide) (by omega)) (by omega) (by omega) (by omega) (by omega) h
    rw [← m n n1, ← m2 n n1, ← mem_made lp ls tl.r2 n1, ← mem_made lp2 ls2 tl2.r2 n1]
    by_cases h0 : asc rs 0 p' = []
    · have r0 := (rests_empty lp tl.r2).mp h0
      have R0 := (rests_empty lp2 tl2.r2).mp (by rw [← e2]; exact h0)
      rw [← e2, h0, few_tail, few_tail, e1]
    · obtain ⟨f1, f2⟩ := e3 h0
      rw [e1, e2, f1, f2]
  · intro h
    obtain ⟨a, b, c, d⟩ := uniq lp ls tl.r2 lp2 ls2 tl2.r2 (fun n n1 => by rw [m n n1, m2 n n1, h n n1])
    rw [a, c] at *
    rw [← a] at *
    rw [d, b]
def spStrS (K : PySem.W.Frag) (CC : Addr) (B M : Int) : Sp := fun vs H Q _ => ∃ (x : Addr) (f : Int → Bool), vs = [.ref x] ∧ CalS CC B M H x f ∧ ∀ y H', Same H H' → TextOf f y → Q (.str y) H'
theorem ok_str (B M : Int) (T : Txt K mg) : FnOk P w K mg base CX0 3 T.a_Calendar___str__ T.d_Calendar___str__ ["self"] (spStrS K T.c_Calendar B M) := by
  have G__text : FnOk P w K mg base CX0 2 T.a__text T.d__text ["few", "start", "period", "rests"] (spText K) := ok_text T
  refine T.F_Calendar___str__.ok sc_Calendar___str__ (fun vs H Q E h => ?_) (fun cdv A outer s H vs Q E hr h => ?_)
  · obtain ⟨x, f, rfl, _⟩ := h
    rfl
  · obtain ⟨x, f, rfl, ⟨fs, rs, q, p, ⟨dx, gs, hx, pf, pr, e, p', rfl, lp, ls, hpr, hpf⟩, tl, _, _, m⟩, k⟩ := h
    have nd := sc_Calendar___str__.nd
    have a1 := lp.p1
    have a2 := lp.le
    have a3 := tl.p2
    have c1 := ls.e1
    have c2 := ls.le
    have c3 := tl.q2
    have l1 := @asc_len fs 1 e
    have l2 := @asc_len rs 0 p'
    refine ⟨_, (pss_one (ps_ret (pe_callTy SkE.call_str_str (by rfl) T.z_str (by decide +kernel) (pa_cons (pe_call G__text (hr.mono (by first | decide | omega)) (by rfl) T.m__text T.k__text T.b__text .nil pass0 (pa_cons (pe_fld (pv 0) rfl) (pa_cons (pe_fld (pv 0) rfl) (pa_cons (pe_fld (pv 0) rfl) (pa_cons (pe_fld (pv 0) rfl) pa_nil))))) pa_nil)))), ?_⟩
    refine ⟨_, rfl, x, _, dx, _, _, rfl, hx, T.C_Calendar, T.n_Calendar_few, rfl, _, rfl, x, _, dx, _, _, rfl, hx, T.C_Calendar, T.n_Calendar_start, rfl, _, rfl, x, _, dx, _, _, rfl, hx, T.C_Calendar, T.n_Calendar_period, rfl, _, rfl, x, _, dx, _, _, rfl, hx, T.C_Calendar, T.n_Calendar_rests, rfl, ?_⟩
    exact ⟨pf, pr, asc fs 1 e, asc rs 0 p', e, p', rfl, SqT.of hpf, SqT.of hpr, asc_small (by decide) (by omega), asc_small (by decide) (by omega), by omega, by omega, by omega, by omega, by omega, by omega, fun H' s' => ⟨_, rfl, k _ H' s' ⟨fs, rs, q, p, e, p', lp, ls, tl, m, rfl⟩⟩⟩

end
end K32
namespace K32
open PySem PySem.Spec PyProof.Rows L2 Rs LamX NdefX
local macro_rules | `(tactic| walk_at "om") => `(tactic| first | omega | (dsimp only; omega))
local macro_rules | `(tactic| walk_at "side") => `(tactic| first | omega | (dsimp only; omega) | decide | (unfold CMul; omega) | (unfold CDiv; omega) | (unfold CPow; omega) | exact wide_div (b := 64) (by omega) (by omega) (by decide) (by decide))
local macro_rules | `(tactic| walk_at "hp") => `(tactic| first | assumption | exact upd_same)
local macro_rules | `(tactic| walk_at "sq") => `(tactic| first | assumption | exact SqL.of (by assumption) | exact SqL.of upd_same)
local macro_rules | `(tactic| walk_at "st") => `(tactic| first
  | refine ⟨_, rfl, ?_⟩
  | (refine ⟨_, _, rfl, rfl, And.intro ?side ?_⟩; (case side => walk_at "side"))
  | refine ⟨_, _, rfl, rfl, ?_⟩
  | (refine' ⟨_, _, _, _, rfl, rfl, SqL.of ?hp, ?atx, ?_⟩; (case hp => walk_at "hp"); (case atx => exact rfl))
  | (refine' ⟨_, _, _, _, rfl, rfl, ?hp, ?atx, ?_⟩; (case hp => walk_at "hp"); (case atx => exact rfl))
  | (refine' ⟨_, _, rfl, Or.inl ?sq, ?_⟩; (case sq => walk_at "sq"))
  | refine Or.inl ⟨_, rfl, ?_⟩
  | refine Or.inr ⟨_, rfl, ?_⟩)
local macro_rules | `(tactic| walk_at "evd") => `(tactic| first
  | exact evd_int
  | exact evd_str
  | exact evd_non
  | exact evd_bl
  | exact evd_nil
  | (refine evd_cons ?_ (fun _ => ?_) <;> walk_at "evd")
  | (refine evd_tup ?_ (Nat.le_of_ble_eq_true rfl); walk_at "evd"))

section
variable {P : Program} {w : World} {K : PySem.W.Frag} {mg : Str → Option Value} {base : Heap}
theorem range_mem {f : Int → Bool} {p n : Int} : n ∈ ((List.range p.toNat).map fun i : Nat => (i : Int)).filter f ↔ 0 ≤ n ∧ n < p ∧ f n = true := by
  rw [List.mem_filter, List.mem_map]
  constructor
  · rintro ⟨⟨i, hi, rfl⟩, h⟩
    rw [List.mem_range] at hi
    exact ⟨by omega, by omega, h⟩
  · rintro ⟨a, b, h⟩
    exact ⟨⟨n.toNat, List.mem_range.mpr (by omega), by omega⟩, h⟩

/-- what is drawn or told at t, lists or tuples -/
structure RawD (K : PySem.W.Frag) (H : Hp) (t a0 a3 : Addr) (fs rs : List Int) (q p : Int) : Prop where
  t : H t = some (.tup [.ref a0, .int q, .int p, .ref a3])
  f : SeqD K H a0 fs
  r : SeqD K H a3 rs
theorem RawD.same {H H' : Hp} {t a0 a3 : Addr} {fs rs : List Int} {q p : Int} (h : RawD K H t a0 a3 fs rs q p) (s : Same H H') : RawD K H' t a0 a3 fs rs q p := ⟨s _ _ h.t, h.f.same s, h.r.same s⟩
def spHas (K : PySem.W.Frag) : Sp := fun vs H Q _ => ∃ (t a0 a3 : Addr) (fs rs : List Int) (q p n : Int), vs = [.ref t, .int n] ∧ RawD K H t a0 a3 fs rs q p ∧ 1 ≤ p ∧ Q (.bl (memC fs q p rs n)) H
theorem ok_has (T : Txt K mg) : FnOk P w K mg base CX0 1 T.a__law_has T.d__law_has ["_law_raw_here", "_law_number"] (spHas K) := by
  refine T.F__law_has.ok sc__law_has (fun vs H Q E h => ?_) (fun cdv A outer s H vs Q E hr h => ?_)
  · obtain ⟨t, a0, a3, fs, rs, q, p, n, rfl, _⟩ := h
    rfl
  · obtain ⟨t, a0, a3, fs, rs, q, p, n, rfl, rh, p1, k⟩ := h
    have nd := sc__law_has.nd
    refine ⟨_, (pss_cons (ps_asg (pv 0) (pg_tup rfl (pgs_cons (pg_name (i := 2) nd rfl (Or.inl rfl)) (pgs_cons (pg_name (i := 3) nd rfl (Or.inl rfl)) (pgs_cons (pg_name (i := 4) nd rfl (Or.inl rfl)) (pgs_cons (pg_name (i := 5) nd rfl (Or.inl rfl)) pgs_nil))))))
    (pss_cons (ps_if (pt_cmpR op_lt (pv 1) pe_int (nomark _)) (pss_one (ps_ret pe_bl)) pss_nil)
    (pss_one (ps_ret (pe_ifExp (pt_cmpR op_lt (pv 1) (pv 3) (nomark _)) (pe_cmpR op_in_seq (pv 1) (pv 2) (by rfl)) (pe_cmpR op_in_seq (pe_op op_mod (pv 1) (pv 4)) (pv 5) (by rfl))))))), ?_⟩
    refine ⟨_, rfl, t, _, rfl, SqT.of rh.t, rfl, _, _, rfl, _, _, rfl, _, _, rfl, _, _, rfl, rfl, ?_⟩
    refine ⟨_, rfl, n, 1, rfl, rfl, _, rfl, ifD (fun h => ?_) (fun h => ?_)⟩
    · have z : memC fs q p rs n = false := by
        unfold memC
        rw [decide_eq_false (by omega)]
        rfl
      rw [z] at k
      exact k
    · unfold memC at k
      rw [decide_eq_true (show 1 ≤ n by omega), Bool.true_and] at k
      refine ⟨_, rfl, _, rfl, n, q, rfl, rfl, _, rfl, ifD (fun h2 => ?_) (fun h2 => ?_)⟩
      · rw [if_pos h2] at k
        refine ⟨_, rfl, _, rfl, a0, _, rfl, rh.f.i, rfl, flat_ints, ?_⟩
        show Q (.bl (inV (.int n) _)) H
        rw [inV_int]
        exact k
      · rw [if_neg h2] at k
        refine ⟨_, rfl, _, rfl, n, p, rfl, rfl, by omega, _, rfl, a3, _, rfl, rh.r.i, rfl, flat_ints, ?_⟩
        show Q (.bl (inV (.int (n % p)) _)) H
        rw [inV_int]
        exact k
def spCalOf (K : PySem.W.Frag) (CC : Addr) : Sp := fun vs H Q _ => ∃ (t a0 a3 : Addr) (fs rs : List Int) (q p : Int), vs = [.ref t] ∧ RawD K H t a0 a3 fs rs q p ∧ TellI fs rs q p ∧ ∀ H' x, Same H H' → H x = none → CalO CC H' x fs rs q p → Q (.ref x) H'
theorem ok_cal_of (T : Txt K mg) : FnOk P w K mg base CX0 6 T.a__law_cal_of T.d__law_cal_of ["_law_raw_here"] (spCalOf K T.c_Calendar) := by
  have GI_Calendar : FnOk P w K mg base CX0 4 T.a_Calendar___init__ T.d_Calendar___init__ ["self", "few", "start", "period", "rests"] (spCalG K T.c_Calendar) := ok_calG T
  refine T.F__law_cal_of.ok sc__law_cal_of (fun vs H Q E h => ?_) (fun cdv A outer s H vs Q E hr h => ?_)
  · obtain ⟨t, a0, a3, fs, rs, q, p, rfl, _⟩ := h
    rfl
  · obtain ⟨t, a0, a3, fs, rs, q, p, rfl, rh, tl, k⟩ := h
    have nd := sc__law_cal_of.nd
    refine ⟨_, (pss_one (ps_ret (pe_make T.M_Calendar GI_Calendar (hr.mono (by first | decide | omega)) (by rfl) T.m_Calendar T.b_Calendar___init__ .nil pass0 (pa_cons (pe_ix ix_tup (pv 0) pe_int (fun _ _ => rfl)) (pa_cons (pe_ix ix_tup (pv 0) pe_int (fun _ _ => rfl)) (pa_cons (pe_ix ix_tup (pv 0) pe_int (fun _ _ => rfl)) (pa_cons (pe_ix ix_tup (pv 0) pe_int (fun _ _ => rfl)) pa_nil))))))), ?_⟩
    refine ⟨_, rfl, _, _, _, _, rfl, rfl, SqT.of rh.t, rfl, ?_⟩
    refine ⟨_, rfl, _, _, _, _, rfl, rfl, SqT.of rh.t, rfl, ?_⟩
    refine ⟨_, rfl, _, _, _, _, rfl, rfl, SqT.of rh.t, rfl, ?_⟩
    refine ⟨_, rfl, _, _, _, _, rfl, rfl, SqT.of rh.t, rfl, ?_⟩
    refine fun x dx nx ndx ne => ?_
    have sm : Same H (upd (upd H dx (.own x)) x (.ins T.c_Calendar dx [])) := fun a o e => by
      rw [upd_ne (ne_of_none e nx), upd_ne (ne_of_none e ndx)]
      exact e
    refine ⟨x, dx, a0, a3, fs, rs, q, p, rfl, upd_same, rh.f.same sm, rh.r.same sm, tl, fun F gs kF hF cf => ⟨rfl, ?_⟩⟩
    exact k F x (fun a o e => kF a o (ne_of_none e nx) (sm a o e)) nx ⟨dx, gs, hF, cf⟩

/-- a common multiple -/
def spCommon : Sp := fun vs H Q _ => ∃ (m n : Int), vs = [.int m, .int n] ∧ 1 ≤ m ∧ m ≤ 100 ∧ 1 ≤ n ∧ n ≤ 100 ∧ ∀ c, 1 ≤ c → c ≤ m * n → m ∣ c → n ∣ c → Q (.int c) H
def gapI (m n : Int) : Option (Option V) → Nat
  | some (some (V.int e)) => (m * n - e).toNat
  | _ => 0
theorem ok_common (T : Txt K mg) : FnOk P w K mg base CX0 1 T.a__law_common T.d__law_common ["_law_one", "_law_other"] spCommon := by
  refine T.F__law_common.ok sc__law_common (fun vs H Q E h => ?_) (fun cdv A outer s H vs Q E hr h => ?_)
  · obtain ⟨m, n, rfl, _⟩ := h
    rfl
  · obtain ⟨m, n, rfl, m1, m2, n1, n2, k⟩ := h
    have nd := sc__law_common.nd
    refine ⟨_, (pss_cons (ps_set (i := 2) nd rfl (Or.inl rfl) (pv 0))
    (pss_cons (ps_while PassesOwn.never (pt_cmpR op_ne (pe_op op_mod (pv 2) (pv 1)) pe_int (nomark _)) (pss_one (ps_set (i := 2) nd rfl (Or.inl rfl) (pe_op op_add (pv 2) (pv 0)))))
    (pss_one (ps_ret (pv 2))))), ?_⟩
    have mn : m * 1 ≤ m * n := Int.mul_le_mul_of_nonneg_left n1 (by omega)
    refine ⟨_, rfl, ?_⟩
    dsimp only [gName]
    refine while_by (fun σ Hc => Hc = H ∧ ∃ e, σ = [some (.int m), some (.int n), some (.int e)] ∧ 1 ≤ e ∧ e ≤ m * n ∧ m ∣ e)
      (fun σ _ => gapI m n σ[2]?) ⟨rfl, m, rfl, m1, by omega, Int.dvd_refl _⟩ (fun σ Hc hP => ?_) ?_
    · obtain ⟨rfl, e, rfl, e1, e2, d1⟩ := hP
      refine ⟨_, rfl, _, rfl, e, n, rfl, rfl, by omega, rfl, _, rfl, ?_⟩
      rw [dec_int]
      refine ifB (fun g => ?_) (fun g => ?_)
      · have g : ¬ e % n = 0 := by simpa using g
        refine ⟨_, rfl, _, rfl, e, m, rfl, rfl, ?_⟩
        have lt : e ≠ m * n := by
          rintro rfl
          exact g (Int.mul_emod_left m n)
        have step : e + m ≤ m * n := by
          obtain ⟨c, hc⟩ := d1
          subst hc
          have cn : c < n := by
            rcases Int.lt_or_le c n with h | h
            · exact h
            · have : m * n ≤ m * c := Int.mul_le_mul_of_nonneg_left h (by omega)
              omega
          have : m * (c + 1) ≤ m * n := Int.mul_le_mul_of_nonneg_left (by omega) (by omega)
          rw [Int.mul_add, Int.mul_one] at this
          exact this
        refine ⟨⟨rfl, e + m, rfl, by omega, step, Int.dvd_add d1 (Int.dvd_refl _)⟩, ?_⟩
        show (m * n - (e + m)).toNat < (m * n - e).toNat
        omega
      · have g : e % n = 0 := by simpa using g
        exact ⟨_, rfl, k e e1 e2 d1 (Int.dvd_of_emod_eq_zero g)⟩
    · intro σ H Q Q' mo h
      obtain ⟨v, hv, w, hw, i, j, r1, r2, c, sc, b, hb, h⟩ := h
      exact ⟨v, hv, w, hw, i, j, r1, r2, c, sc, b, hb, mo _ _ h⟩

/-! drawn arguments -/
structure RawI (fs rs : List Int) (q p far wide : Int) : Prop where
  q1 : 1 ≤ q
  q2 : q ≤ far
  p1 : 1 ≤ p
  p2 : p ≤ wide
  f1 : fs.length ≤ 100
  r1 : rs.length ≤ 100
  f2 : ∀ n ∈ fs, 1 ≤ n ∧ n < q
  r2 : ∀ n ∈ rs, 0 ≤ n ∧ n < p
def spRaw : Sp := fun vs H Q _ => ∃ (b : Addr) (far wide : Int), vs = [.ref b, .int far, .int wide] ∧ Box H b ∧ 0 < far ∧ far ≤ 600 ∧ 0 < wide ∧ wide ≤ 90 ∧
  ∀ (t a0 a3 : Addr) (fs rs : List Int) (q p : Int) (H' : Hp), H' t = some (.tup [.ref a0, .int q, .int p, .ref a3]) → H' a0 = some (.lst (fs.map V.int)) → H' a3 = some (.lst (rs.map V.int)) → H a0 = none → H a3 = none → a0 ≠ b → a3 ≠ b → a0 ≠ a3 →
    RawI fs rs q p far wide → Box H' b → But b H H' → Q (.ref t) H'
theorem ok_raw (T : Txt K mg) : FnOk P w K mg base CX0 3 T.a__law_raw T.d__law_raw ["_law_box_here", "_law_far", "_law_wide"] spRaw := by
  have G__law_take : FnOk P w K mg base CX0 1 T.a__law_take T.d__law_take ["_law_box_here", "_law_many"] spTake := ok_take T
  have G__law_pick : FnOk P w K mg base CX0 2 T.a__law_pick T.d__law_pick ["_law_box_here", "_law_some"] spPick := ok_pick T
  refine T.F__law_raw.ok sc__law_raw (fun vs H Q E h => ?_) (fun cdv A outer s H vs Q E hr h => ?_)
  · obtain ⟨b, far, wide, rfl, _⟩ := h
    rfl
  · obtain ⟨b, far, wide, rfl, hB, f0, f1, w0, w1, k⟩ := h
    have nd := sc__law_raw.nd
    refine ⟨_, (pss_cons (ps_set (i := 3) nd rfl (Or.inr rfl) (pe_op op_add pe_int (pe_call G__law_take (hr.mono (by first | decide | omega)) (by rfl) T.m__law_take T.k__law_take T.b__law_take .nil pass0 (pa_cons (pv 0) (pa_cons (pv 1) pa_nil)))))
    (pss_cons (ps_set (i := 4) nd rfl (Or.inr rfl) (pe_op op_add pe_int (pe_call G__law_take (hr.mono (by first | decide | omega)) (by rfl) T.m__law_take T.k__law_take T.b__law_take .nil pass0 (pa_cons (pv 0) (pa_cons (pv 2) pa_nil)))))
    (pss_cons (ps_set (i := 5) nd rfl (Or.inl rfl) (pe_ifExp (pt_cmpR op_gt (pv 3) pe_int (nomark _)) (pe_lc (own := [("_law_turn", 6)]) (g := (gName 6)) (by rfl) nd (pi_range1 (by rfl) T.z_range (pa_cons (pe_call G__law_take (hr.mono (by first | decide | omega)) (by rfl) T.m__law_take T.k__law_take T.b__law_take .nil pass0 (pa_cons (pv 0) (pa_cons pe_int pa_nil))) pa_nil)) (blkOk_by (N := ["_law_box_here", "_law_far", "_law_wide", "_law_start", "_law_period", "_law_few", "_law_turn", "_law_rests"]) (sc := defScope s__law_raw) (own := [("_law_turn", 6)]) (by decide +kernel)) (fun _ _ _ _ _ => by exact (pg_name (i := 6) nd rfl (Or.inl rfl))) (fun _ _ _ _ _ => by exact pts_nil) (fun _ _ _ _ _ => by exact (pe_op op_add pe_int (pe_call G__law_take (hr.mono (by first | decide | omega)) (by rfl) T.m__law_take T.k__law_take T.b__law_take .nil pass0 (pa_cons (pv 0) (pa_cons (pe_op op_sub (pv 3) pe_int) pa_nil)))))) (pe_lst pa_nil)))
    (pss_cons (ps_setLc (i := 7) (own := [("_law_turn", 6)]) (g := (gName 6)) (by rfl) nd rfl rfl (sw_true rfl rfl rfl (by decide +kernel)) (pi_range1 (by rfl) T.z_range (pa_cons (pe_call G__law_pick (hr.mono (by first | decide | omega)) (by rfl) T.m__law_pick T.k__law_pick T.b__law_pick .nil pass0 (pa_cons (pv 0) (pa_cons (pe_lst (pa_cons pe_int (pa_cons pe_int (pa_cons pe_int (pa_cons pe_int (pa_cons pe_int (pa_cons (pv 4) pa_nil))))))) pa_nil))) pa_nil)) (blkOk_by (N := ["_law_box_here", "_law_far", "_law_wide", "_law_start", "_law_period", "_law_few", "_law_turn", "_law_rests"]) (sc := defScope s__law_raw) (own := [("_law_turn", 6)]) (by decide +kernel)) (fun _ _ _ _ _ => by exact (pg_name (i := 6) nd rfl (Or.inl rfl))) (fun _ _ _ _ _ => by exact pts_nil) (fun _ _ _ _ _ => by exact (pe_call G__law_take (hr.mono (by first | decide | omega)) (by rfl) T.m__law_take T.k__law_take T.b__law_take .nil pass0 (pa_cons (pv 0) (pa_cons (pv 4) pa_nil)))))
    (pss_one (ps_ret (pe_tup (pa_cons (pv 5) (pa_cons (pv 3) (pa_cons (pv 4) (pa_cons (pv 7) pa_nil))))))))))), ?_⟩
    refine ⟨_, rfl, _, rfl, b, far, rfl, hB, f0, by omega, fun r H1 r0 r1 B1 k1 => ⟨_, _, rfl, rfl, ?_⟩⟩
    refine ⟨_, rfl, _, rfl, b, wide, rfl, B1, w0, by omega, fun r' H2 p0 p1 B2 k2 => ⟨_, _, rfl, rfl, ?_⟩⟩
    have k02 := k1.trans k2
    have tail : ∀ (a0 : Addr) (fs : List Int) (H3 : Hp), H a0 = none → a0 ≠ b → H3 a0 = some (.lst (fs.map V.int)) → fs.length ≤ 100 → (∀ n ∈ fs, 1 ≤ n ∧ n < 1 + r) → Box H3 b → But b H H3 →
        tSeq (tAsg (tLc (iRng1 (tCons (tCall spPick [] E0 (tCons (tVar 0) (tCons (tLst (tCons (tC (V.int 0)) (tCons (tC (V.int 1)) (tCons (tC (V.int 1)) (tCons (tC (V.int 2)) (tCons (tC (V.int 3)) (tCons (tVar 4) tNil))))))) tNil))) tNil)) (gName 6) tYes (tCall spTake [] E0 (tCons (tVar 0) (tCons (tVar 4) tNil))) [6]) (gName 7))
          (tRet (tTup (tCons (tVar 5) (tCons (tVar 3) (tCons (tVar 4) (tCons (tVar 7) tNil)))))) { nx := fun x H' => Q V.non H', rt := Q } [some (.ref b), some (.int far), some (.int wide), some (.int (1 + r)), some (.int (1 + r')), some (.ref a0), none, none] H3 := by
      intro a0 fs H3 na0 nb0 h0 l0 in0 B3 k03
      refine asg_go (ldraw (b := b) (lo := 0) (hi := 1 + r') (fun R hR => ?_) (fun x Hc R Bc hR => ?_) (fun D ns H4 nD neD hD lD inD B4 k4 => ?_))
      · refine ⟨_, rfl, _, rfl, szL (Nat.le_of_ble_eq_true rfl), fun L nL => ?_⟩
        refine ⟨b, L, _, rfl, B3.same (same_new nL), B3.ne_none nL, upd_same, by simp, by simp, fun v H5 hv B5 k5 => ?_⟩
        obtain ⟨m, rfl, m0, m1⟩ : ∃ m, v = .int m ∧ 0 ≤ m ∧ m ≤ 100 := by
          simp only [List.mem_cons, List.not_mem_nil, or_false] at hv
          rcases hv with h | h | h | h | h | h <;> exact ⟨_, h, by omega, by omega⟩
        exact hR m H5 m0 m1 B5 ((But.of_same (same_new nL)).trans k5)
      · exact ⟨_, rfl, _, rfl, b, 1 + r', rfl, Bc, by omega, by omega, fun n H5 n0 n1 B5 k5 => hR n H5 n0 n1 B5 k5⟩
      · refine ⟨_, rfl, _, rfl, _, rfl, _, rfl, szL (Nat.le_of_ble_eq_true rfl), fun t nt => ?_⟩
        have ne : a0 ≠ D := by
          rintro rfl
          rw [nD] at h0
          cases h0
        exact k t a0 D fs ns (1 + r) (1 + r') _ upd_same (same_new nt _ _ (k4 _ _ nb0 h0)) (same_new nt _ _ hD) na0 (k03.free neD nD) nb0 neD ne ⟨by omega, by omega, by omega, by omega, l0, lD, in0, inD⟩ (B4.same (same_new nt)) ((k03.trans k4).trans (But.of_same (same_new nt)))
    refine ⟨_, rfl, _, _, rfl, rfl, _, rfl, ifB (fun e => ?_) (fun e => ?_)⟩
    · have e := of_decide_eq_true e
      refine ldraw (b := b) (lo := 1) (hi := 1 + r) (fun R hR => ?_) (fun x Hc R Bc hR => ?_) (fun D ns H4 nD neD hD lD inD B4 k4 => ?_)
      · exact ⟨_, rfl, b, 6, rfl, B2, by decide, by decide, fun m H3 m0 m1 B3 k3 => hR m H3 m0 (by omega) B3 k3⟩
      · exact ⟨_, rfl, _, rfl, _, _, rfl, rfl, b, 1 + r - 1, rfl, Bc, by omega, by omega, fun n H5 n0 n1 B5 k5 => ⟨_, _, rfl, rfl, hR _ H5 (by omega) (by omega) B5 k5⟩⟩
      · exact tail D ns H4 (k02.free neD nD) neD hD lD inD B4 (k02.trans k4)
    · refine ⟨szL (Nat.le_of_ble_eq_true rfl), fun L nL => ?_⟩
      exact tail L [] _ (k02.free (B2.ne_none nL) nL) (B2.ne_none nL) upd_same (by simp) (fun n h => nomatch h) (B2.same (same_new nL)) (k02.trans (But.of_same (same_new nL)))


/-- what is drawn at t, lists -/
structure RawH (H : Hp) (t a0 a3 : Addr) (fs rs : List Int) (q p : Int) : Prop where
  t : H t = some (.tup [.ref a0, .int q, .int p, .ref a3])
  f : H a0 = some (.lst (fs.map V.int))
  r : H a3 = some (.lst (rs.map V.int))
theorem RawH.d {H : Hp} {t a0 a3 : Addr} {fs rs : List Int} {q p : Int} (h : RawH H t a0 a3 fs rs q p) : RawD K H t a0 a3 fs rs q p := ⟨h.t, .inl h.f, .inl h.r⟩
/-! the law's own least form -/
theorem perOk_iff {p s : Int} {rs : List Int} (s1 : 1 ≤ s) (hb : ∀ r ∈ rs, 0 ≤ r ∧ r < p) : perOk p s rs = true ↔ p % s = 0 ∧ ∀ r, 0 ≤ r → r < p → (r ∈ rs ↔ r % s ∈ rs) := by
  constructor
  · intro ok
    obtain ⟨e, cl⟩ := perOk_split ok
    refine ⟨e, fun r r0 r1 => ?_⟩
    have a0 := Int.emod_nonneg r (show s ≠ 0 by omega)
    have a1 := Int.emod_lt_of_pos r (show 0 < s by omega)
    have k0 : 0 ≤ r / s := Int.ediv_nonneg r0 (by omega)
    have k1 : r / s ≤ p / s := Int.ediv_le_ediv (by omega) (by omega)
    have dd := Int.emod_add_mul_ediv r s
    have qq := Int.emod_add_mul_ediv p s
    rw [e] at qq
    have al : r % s ≤ r := by
      have := Int.mul_nonneg (show 0 ≤ s by omega) k0
      omega
    constructor
    · intro h
      have z := closed cl hb (p / s - r / s).toNat _ h
      rw [Int.toNat_of_nonneg (by omega), show r + (p / s - r / s) * s = r % s + p by rw [Int.sub_mul, Int.mul_comm (p / s), Int.mul_comm (r / s)]; omega, Int.add_emod_right, Int.emod_eq_of_lt a0 (by omega)] at z
      exact z
    · intro h
      have z := closed cl hb (r / s).toNat _ h
      rw [Int.toNat_of_nonneg k0, show r % s + r / s * s = r by rw [Int.mul_comm]; exact dd, Int.emod_eq_of_lt r0 r1] at z
      exact z
  · rintro ⟨e, same⟩
    unfold perOk
    rw [decide_eq_true e, Bool.true_and, List.all_eq_true]
    intro r hr
    obtain ⟨r0, r1⟩ := hb r hr
    refine decide_eq_true ((same _ (Int.emod_nonneg _ (by omega)) (Int.emod_lt_of_pos _ (by omega))).mpr ?_)
    rw [Int.emod_emod_of_dvd _ (Int.dvd_of_emod_eq_zero e), Int.add_emod_right]
    exact (same r r0 r1).mp hr
theorem sorted_ext : ∀ {a b : List Int}, a.Pairwise (· < ·) → b.Pairwise (· < ·) → (∀ n, n ∈ a ↔ n ∈ b) → a = b
  | [], [], _, _, _ => rfl
  | [], y :: b, _, _, h => absurd ((h y).mpr List.mem_cons_self) (by simp)
  | x :: a, [], _, _, h => absurd ((h x).mp List.mem_cons_self) (by simp)
  | x :: a, y :: b, ha, hb, h => by
    rw [List.pairwise_cons] at ha hb
    have h1 := (h x).mp List.mem_cons_self
    have h2 := (h y).mpr List.mem_cons_self
    rw [List.mem_cons] at h1 h2
    have e : x = y := by
      rcases h1 with h1 | h1
      · exact h1
      · rcases h2 with h2 | h2
        · exact h2.symm
        · have := ha.1 _ h2
          have := hb.1 _ h1
          omega
    subst e
    rw [sorted_ext ha.2 hb.2 fun n => ⟨fun m => ?_, fun m => ?_⟩]
    · have := ha.1 n m
      rcases List.mem_cons.mp ((h n).mp (List.mem_cons_of_mem _ m)) with g | g
      · omega
      · exact g
    · have := hb.1 n m
      rcases List.mem_cons.mp ((h n).mpr (List.mem_cons_of_mem _ m)) with g | g
      · omega
      · exact g
/-- the rests by the least period are those below it -/
theorem rests_sorted {p pp : Int} {rs left : List Int} (lp : LeastP p rs pp) (hb : ∀ r ∈ rs, 0 ≤ r ∧ r < p) (h1 : left.Pairwise (· < ·)) (h2 : ∀ k, k ∈ left ↔ ∃ r ∈ rs, r % pp = k) : left = asc rs 0 pp := by
  have p1 := lp.p1
  refine sorted_ext h1 asc_sorted fun n => ?_
  rw [h2]
  constructor
  · rintro ⟨r, hr, rfl⟩
    refine (per_mem lp hb r).mpr ?_
    rw [Int.emod_eq_of_lt (hb r hr).1 (hb r hr).2]
    exact hr
  · intro h
    obtain ⟨h, a, b⟩ := mem_asc.mp h
    exact ⟨n, h, Int.emod_eq_of_lt a b⟩
theorem distinct_few {ms : List Int} {b : Int} (nd : ms.Nodup) (h : ∀ m ∈ ms, 0 ≤ m ∧ m < b) : ms.length ≤ b.toNat := by
  have z := nd.length_le_of_subset (l₂ := (List.range b.toNat).map fun i : Nat => (i : Int)) (fun m hm => by
    obtain ⟨a, c⟩ := h m hm
    exact List.mem_map.mpr ⟨m.toNat, List.mem_range.mpr (by omega), by omega⟩)
  rwa [List.length_map, List.length_range] at z
theorem cb_go {r : List V → Hp → VK → Prop} {te : TE} {σ : L2.St} {H : Hp} {Q : VK} (h : te σ H fun x H1 => r [x] H1 Q) : tCB r (tCons te tNil) σ H Q := h
theorem ifs_go {c : TT} {t u : TS} {D : Ends} {σ : L2.St} {H : Hp} (h : c σ H fun b H1 => if b = true then t D σ H1 else u D σ H1) : tIfS c t u D σ H := h
theorem tand_go {t u : TT} {σ : L2.St} {H : Hp} {Q : Bool → Hp → Prop} (h : t σ H fun c H1 => if c = true then u σ H1 Q else Q false H1) : tAnd t u σ H Q := h
theorem eqv_lnil {ns : List Int} : PyData.eqv (.list (ns.map PyData.int)) (.list []) = decide (ns = []) := by
  cases ns <;> rfl
theorem dec_bls {a b : Bool} : decide (V.bl a = V.bl b) = decide (a = b) := by
  cases a <;> cases b <;> rfl
def oddN (p s : Int) (rs : List Int) : List Int := ((List.range p.toNat).map fun i : Nat => (i : Int)).filter fun r => !decide (decide (r ∈ rs) = decide (r % s ∈ rs))
theorem odd_nil {p s : Int} {rs : List Int} : oddN p s rs = [] ↔ ∀ r, 0 ≤ r → r < p → (r ∈ rs ↔ r % s ∈ rs) := by
  rw [List.eq_nil_iff_forall_not_mem]
  constructor
  · intro h r r0 r1
    have z := h r
    unfold oddN at z
    rw [range_mem] at z
    by_cases g : decide (r ∈ rs) = decide (r % s ∈ rs)
    · exact decide_eq_decide.mp g
    · exact absurd ⟨r0, r1, by simp only [g, decide_false, Bool.not_false]⟩ z
  · intro h r z
    unfold oddN at z
    rw [range_mem] at z
    obtain ⟨r0, r1, z⟩ := z
    rw [decide_eq_true (decide_eq_decide.mpr (h r r0 r1))] at z
    cases z
theorem RawH.same {H H' : Hp} {t a0 a3 : Addr} {fs rs : List Int} {q p : Int} (h : RawH H t a0 a3 fs rs q p) (s : Same H H') : RawH H' t a0 a3 fs rs q p := ⟨s _ _ h.t, s _ _ h.f, s _ _ h.r⟩
def spLeast (K : PySem.W.Frag) : Sp := fun vs H Q _ => ∃ (t a0 a3 : Addr) (fs rs : List Int) (q p : Int), vs = [.ref t] ∧ RawH H t a0 a3 fs rs q p ∧ 1 ≤ q ∧ q ≤ 600 ∧ 1 ≤ p ∧ p ≤ 1000 ∧ (∀ n ∈ rs, 0 ≤ n ∧ n < p) ∧ rs.length ≤ 1000 ∧
  ∀ (H' : Hp) (L pf pr : Addr) (e pp : Int), Same H H' → LeastP p rs pp → LeastS fs q pp (asc rs 0 pp) e → H' L = some (.tup [.ref pf, .int e, .int pp, .ref pr]) → H' pf = some (.tup ((asc fs 1 e).map V.int)) → H' pr = some (.tup ((asc rs 0 pp).map V.int)) → Q (.ref L) H'
theorem ok_least (T : Txt K mg) : FnOk P w K mg base CX0 2 T.a__law_least_form T.d__law_least_form ["_law_raw_here"] (spLeast K) := by
  have G__law_has : FnOk P w K mg base CX0 1 T.a__law_has T.d__law_has ["_law_raw_here", "_law_number"] (spHas K) := ok_has T
  refine T.F__law_least_form.ok sc__law_least_form (fun vs H Q E h => ?_) (fun cdv A outer s H vs Q E hr h => ?_)
  · obtain ⟨t, a0, a3, fs, rs, q, p, rfl, _⟩ := h
    rfl
  · obtain ⟨t, a0, a3, fs, rs, q, p, rfl, rh, q1, q2, p1, p2, rb, rl, k⟩ := h
    have nd := sc__law_least_form.nd
    refine ⟨_, (pss_cons (ps_asg (pv 0) (pg_tup rfl (pgs_cons (pg_name (i := 1) nd rfl (Or.inl rfl)) (pgs_cons (pg_name (i := 2) nd rfl (Or.inl rfl)) (pgs_cons (pg_name (i := 3) nd rfl (Or.inl rfl)) (pgs_cons (pg_name (i := 4) nd rfl (Or.inr rfl)) pgs_nil))))))
    (pss_cons (ps_set (i := 5) nd rfl (Or.inr rfl) (pv 3))
    (pss_cons (ps_for PassesOwn.never rfl (pi_range3 (by rfl) T.z_range (pa_cons (pv 3) (pa_cons pe_int (pa_cons (pe_op op_sub pe_int pe_int) pa_nil)))) (pg_name (i := 6) nd rfl (Or.inr rfl))
    (pss_cons (ps_setLc (i := 7) (own := [("_law_rest", 8)]) (g := (gName 8)) (by rfl) nd rfl rfl (sw_true rfl rfl rfl (by decide +kernel)) (pi_range1 (by rfl) T.z_range (pa_cons (pv 3) pa_nil)) (blkOk_by (N := ["_law_raw_here", "_law_few", "_law_start", "_law_period", "_law_rests", "_law_least", "_law_some", "_law_odd", "_law_rest", "_law_left", "_law_told", "_law_number"]) (sc := defScope s__law_least_form) (own := [("_law_rest", 8)]) (by decide +kernel)) (fun _ _ _ _ _ => by exact (pg_name (i := 8) nd rfl (Or.inl rfl))) (fun _ _ _ _ _ => by exact pts_one (pt_cmpR op_ne (pe_cmpR (op_in_seqK (K := K) rfl) (pv 8) (pv 4) (by rfl)) (pe_cmpR (op_in_seqK (K := K) rfl) (pe_op op_mod (pv 8) (pv 6)) (pv 4) (by rfl)) (nomark _))) (fun _ _ _ _ _ => by exact (pv 8)))
    (pss_one (ps_if (PW.pt (pw_and (pt_cmpR op_eq (pe_op op_mod (pv 3) (pv 6)) pe_int (nomark _)) (pw_and1 (pt_cmpR (op_eqD hr.units) (pv 7) (pe_lst pa_nil) (nomark _))))) (pss_one (ps_set (i := 5) nd rfl (Or.inr rfl) (pv 6))) pss_nil))))
    (pss_cons (ps_set (i := 9) nd rfl (Or.inl rfl) (pe_callB (cr_sortedMany rfl) (by rfl) T.z_sorted (by decide +kernel) (pa_cons (pe_callTy (cr_setI rfl) (by rfl) T.z_set (by decide +kernel) (pa_cons (pe_lc (own := [("_law_rest", 8)]) (g := (gName 8)) (by rfl) nd (pi_list (pv 4)) (blkOk_by (N := ["_law_raw_here", "_law_few", "_law_start", "_law_period", "_law_rests", "_law_least", "_law_some", "_law_odd", "_law_rest", "_law_left", "_law_told", "_law_number"]) (sc := defScope s__law_least_form) (own := [("_law_rest", 8)]) (by decide +kernel)) (fun _ _ _ _ _ => by exact (pg_name (i := 8) nd rfl (Or.inl rfl))) (fun _ _ _ _ _ => by exact pts_nil) (fun _ _ _ _ _ => by exact (pe_op op_mod (pe_callTy call_int1 (by rfl) T.z_int (by decide +kernel) (pa_cons (pv 8) pa_nil)) (pv 5)))) pa_nil)) pa_nil)))
    (pss_cons (ps_while PassesOwn.never (PW.pt (pw_and (pt_cmpR op_gt (pv 2) pe_int (nomark _)) (pw_and1 (pt_cmpR op_eq (pe_call G__law_has (hr.mono (by first | decide | omega)) (by rfl) T.m__law_has T.k__law_has T.b__law_has .nil pass0 (pa_cons (pv 0) (pa_cons (pe_op op_sub (pv 2) pe_int) pa_nil))) (pe_cmpR op_in_seq (pe_op op_mod (pe_callTy call_int1 (by rfl) T.z_int (by decide +kernel) (pa_cons (pe_op op_sub (pv 2) pe_int) pa_nil)) (pv 5)) (pv 9) (by rfl)) (nomark _))))) (pss_one (ps_set (i := 2) nd rfl (Or.inl rfl) (pe_op op_sub (pv 2) pe_int))))
    (pss_cons (ps_setLc (i := 10) (own := [("_law_number", 11)]) (g := (gName 11)) (by rfl) nd rfl rfl (sw_true rfl rfl rfl (by decide +kernel)) (pi_range2 (by rfl) T.z_range (pa_cons pe_int (pa_cons (pv 2) pa_nil))) (blkOk_by (N := ["_law_raw_here", "_law_few", "_law_start", "_law_period", "_law_rests", "_law_least", "_law_some", "_law_odd", "_law_rest", "_law_left", "_law_told", "_law_number"]) (sc := defScope s__law_least_form) (own := [("_law_number", 11)]) (by decide +kernel)) (fun _ _ _ _ _ => by exact (pg_name (i := 11) nd rfl (Or.inl rfl))) (fun _ _ _ _ _ => by exact pts_one (pt_val (pe_call G__law_has (hr.mono (by first | decide | omega)) (by rfl) T.m__law_has T.k__law_has T.b__law_has .nil pass0 (pa_cons (pv 0) (pa_cons (pv 11) pa_nil))))) (fun _ _ _ _ _ => by exact (pv 11)))
    (pss_one (ps_ret (pe_tup (pa_cons (pe_callTy call_tuple_of (by rfl) T.z_tuple (by decide +kernel) (pa_cons (pv 10) pa_nil)) (pa_cons (pv 2) (pa_cons (pv 5) (pa_cons (pe_callTy call_tuple_of (by rfl) T.z_tuple (by decide +kernel) (pa_cons (pv 9) pa_nil)) pa_nil))))))))))))), ?_⟩
    refine ⟨_, rfl, t, _, rfl, SqT.of rh.t, rfl, _, _, rfl, _, _, rfl, _, _, rfl, _, _, rfl, rfl, ?_⟩
    dsimp only [gName]
    refine ⟨_, rfl, ?_⟩
    dsimp only [gName]
    refine ⟨_, rfl, _, _, rfl, rfl, p, 0, 0 - 1, (p - 0).toNat, rfl, RgC.neg (by omega) (by omega) (by omega) (by omega), for_it walk_rangeC (fun i σ Hc => Same H Hc ∧ ∃ y6 y7 m, σ = [some (.ref t), some (.ref a0), some (.int q), some (.int p), some (.ref a3), some (.int m), y6, y7, none, none, none, none] ∧ 1 ≤ m ∧ m ≤ p ∧ (m = p ∨ perOk p m rs = true) ∧ ∀ s, p - (i : Nat) < s → s < m → perOk p s rs = false)
      ⟨Same.refl _, none, none, p, rfl, p1, Int.le_refl _, .inl rfl, fun s h1 h2 => by simp at h1; omega⟩ (fun _ _ _ _ _ => trivial) (fun i v σ Hc H' hi hP hy => ?_) (fun σ Hc hP => ?_)⟩
    · obtain ⟨s1, y6, y7, m, rfl, m1, m2, mo, no⟩ := hP
      obtain ⟨rfl, rfl⟩ := hy
      have sp : p + (i : Int) * (0 - 1) = p - (i : Int) := by omega
      dsimp only [gName]
      generalize p + (i : Int) * (0 - 1) = s at sp ⊢
      have sp1 : 1 ≤ s := by omega
      have hr3 := s1 _ _ rh.r
      refine asg_go (lcondH (sl := 8) (hi := p) (fun r => !decide (decide (r ∈ rs) = decide (r % s ∈ rs))) (by omega) (by omega) (fun R hR => ⟨_, rfl, hR⟩) (Nat.le_of_ble_eq_true rfl) (fun n Hd R n1 n2 sd hR => ?_) fun D H3 hD s3 hDl => ?_)
      · have hr4 := sd _ _ hr3
        refine ⟨_, rfl, _, rfl, a3, _, rfl, .inl (SqL.of hr4), rfl, flat_ints, _, rfl, _, rfl, n, s, rfl, rfl, by omega, _, rfl, a3, _, rfl, .inl (SqL.of hr4), rfl, flat_ints, rfl, _, rfl, ?_⟩
        show R (!decide (V.bl (inV (.int n) _) = V.bl (inV (.int (n % s)) _))) Hd
        rw [inV_int, inV_int, dec_bls]
        exact hR Hd (Same.refl _)
      · have hDl : H3 D = some (.lst ((oddN p s rs).map V.int)) := hDl
        dsimp only [gName]
        have keep : ∀ H5, Same H3 H5 → (perOk p s rs = false) → Same H H5 ∧ ∃ y6' y7' m', [some (V.ref t), some (V.ref a0), some (V.int q), some (V.int p), some (V.ref a3), some (V.int m), some (V.int s), some (V.ref D), none, none, none, none] = [some (V.ref t), some (V.ref a0), some (V.int q), some (V.int p), some (V.ref a3), some (V.int m'), y6', y7', none, none, none, none] ∧ 1 ≤ m' ∧ m' ≤ p ∧ (m' = p ∨ perOk p m' rs = true) ∧ ∀ s', p - ((i + 1 : Nat) : Int) < s' → s' < m' → perOk p s' rs = false := fun H5 s5 hno =>
          ⟨s1.trans (s3.trans s5), _, _, m, rfl, m1, m2, mo, fun s' a b => by
            by_cases c : s' = s
            · rw [c]
              exact hno
            · exact no s' (by omega) b⟩
        refine ifs_go (tand_go (tst_go ?_))
        refine ⟨_, rfl, _, rfl, p, s, rfl, rfl, by omega, rfl, _, rfl, ?_⟩
        rw [dec_int]
        refine ifB (fun e => ?_) (fun e => ?_)
        · have e : p % s = 0 := by simpa using e
          refine tst_go ⟨_, rfl, szL (Nat.le_of_ble_eq_true rfl), fun L nL => ⟨_, _, .lst (SqL.of (same_new nL _ _ hDl)) dp_ints, .lst (xs := []) (SqL.of upd_same) .nil, ok_ints.shaped (by decide), ok_nil.shaped (by decide), _, rfl, ?_⟩⟩
          rw [eqv_lnil]
          refine ifD (fun g => ?_) (fun g => ?_)
          · have ok : perOk p s rs = true := (perOk_iff sp1 rb).mpr ⟨e, odd_nil.mp g⟩
            exact ⟨_, rfl, s1.trans (s3.trans (same_new nL)), _, _, s, rfl, sp1, by omega, .inr ok, fun s' a b => by omega⟩
          · refine keep _ (same_new nL) ?_
            rw [← Bool.not_eq_true]
            exact fun ok => g (odd_nil.mpr ((perOk_iff sp1 rb).mp ok).2)
        · have e : ¬ p % s = 0 := by simpa using e
          refine ifF rfl (keep _ (Same.refl _) ?_)
          rw [← Bool.not_eq_true]
          exact fun ok => e ((perOk_iff sp1 rb).mp ok).1
    · obtain ⟨s1, y6, y7, pp, rfl, m1, m2, mo, no⟩ := hP
      have lp : LeastP p rs pp := ⟨m1, m2, mo, fun s a b => no s (by omega) b⟩
      clear no mo
      have rh := rh.same s1
      have md : ∀ {r : Int}, 0 ≤ r % pp ∧ r % pp < pp := fun {r} => ⟨Int.emod_nonneg _ (by omega), Int.emod_lt_of_pos _ (by omega)⟩
      dsimp only
      refine asg_go (cb_go (cb_go ?_))
      refine lmapI (sl := 8) (xs := rs.map V.int) (fun j => V.int ((rs.getD j 0) % pp)) (fun R hR => ⟨_, rfl, hR⟩) rh.r (by rw [List.length_map]; omega) (fun j x hj Hd R sd hR => ?_) fun D H3 hD s3 hDl => ?_
      · obtain ⟨r, rfl, hj2⟩ : ∃ r, x = .int r ∧ rs[j]? = some r := by
          rw [List.getElem?_map] at hj
          cases e : rs[j]? with
          | none => rw [e] at hj; cases hj
          | some r => rw [e] at hj; cases hj; exact ⟨r, rfl, rfl⟩
        have ej : rs.getD j 0 = r := by rw [List.getD_eq_getElem?_getD, hj2]; rfl
        refine ⟨_, rfl, .inl ⟨_, rfl, _, rfl, r, pp, rfl, rfl, by omega, ?_⟩⟩
        rw [← ej]
        exact hR Hd (Same.refl _)
      have hDl : H3 D = some (.lst ((rs.map fun r => r % pp).map V.int)) := by
        rw [hDl]
        congr 1
        congr 1
        rw [List.length_map]
        apply List.ext_getElem?
        intro j
        rw [List.getElem?_map, List.getElem?_map, List.getElem?_map]
        by_cases c : j < rs.length
        · rw [List.getElem?_range c, List.getElem?_eq_getElem c]
          show some (V.int (rs.getD j 0 % pp)) = some (V.int (rs[j] % pp))
          rw [List.getD_eq_getElem?_getD, List.getElem?_eq_getElem c]
          rfl
        · rw [List.getElem?_eq_none (by simp; omega), List.getElem?_eq_none (by omega)]
          rfl
      refine ⟨D, _, rfl, SqL.of hDl, by rw [List.length_map]; exact rl, fun S ms nS ndm mem => ?_⟩
      have few := distinct_few (b := pp) ndm fun m hm => by
        obtain ⟨r, _, rfl⟩ := List.mem_map.mp ((mem m).mp hm)
        exact md
      refine ⟨S, _, _, rfl, upd_same, by omega, fun left L hs hm _ nL => ?_⟩
      obtain rfl : left = asc rs 0 pp := rests_sorted lp rb hs fun k => by
        rw [hm, decide_eq_true_eq, List.mem_map]
      dsimp only [gName]
      generalize hF : upd (upd H3 S _) L _ = H4
      have s34 : Same H3 H4 := by
        rw [← hF]
        exact (same_new nS).trans (same_new nL)
      have hL4 : H4 L = some (.lst ((asc rs 0 pp).map V.int)) := by
        rw [← hF]
        exact upd_same
      have rh := rh.same (s3.trans s34)
      have s04 := s1.trans (s3.trans s34)
      clear hF
      refine seq_k (fun σ' H' => H' = H4 ∧ ∃ e, σ' = [some (.ref t), some (.ref a0), some (.int e), some (.int p), some (.ref a3), some (.int pp), y6, y7, none, some (.ref L), none, none] ∧ LeastS fs q pp (asc rs 0 pp) e) (fun σ' H' hC => ?_) (fun R hR => ?_)
      · obtain ⟨rfl, e, rfl, ls⟩ := hC
        have e1 := ls.e1
        have eq := ls.le
        refine asg_go (lcond (sl := 11) (lo := 1) (hi := e) (memC fs q p rs) (by decide) (by decide) (by omega) (by omega) (fun R hR => ⟨_, rfl, hR⟩) (Nat.le_of_ble_eq_true rfl)
          (fun n Hc R n1 n2 sc hR => ⟨_, rfl, _, rfl, t, a0, a3, fs, rs, q, p, n, rfl, (rh.same sc).d, p1, _, rfl, hR⟩) fun D1 H5 hD1 s5 hDl => ?_)
        have hDl : H5 D1 = some (.lst ((asc fs 1 e).map V.int)) := by
          rw [hDl]
          congr 1
          congr 1
          congr 1
          unfold asc ascN
          refine List.filter_congr fun n hn => ?_
          obtain ⟨i, hi, rfl⟩ := List.mem_map.mp hn
          rw [List.mem_range] at hi
          unfold memC
          rw [decide_eq_true (show (1 : Int) ≤ 1 + (i : Nat) by omega), Bool.true_and, if_pos (by omega)]
        dsimp only [gName]
        have hL5 := s5 _ _ hL4
        refine ret_go ⟨_, rfl, D1, _, rfl, .inl ⟨SqL.of hDl, fun pf nf => ?_⟩⟩
        refine ⟨_, rfl, _, rfl, _, rfl, L, _, rfl, .inl ⟨SqL.of (same_new nf _ _ hL5), fun pr nr => ⟨szL (Nat.le_of_ble_eq_true rfl), fun z nz => ?_⟩⟩⟩
        refine k _ z pf pr e pp (((s04.trans s5).trans (same_new nf)).trans ((same_new nr).trans (same_new nz))) lp ls upd_same (same_new nz _ _ (same_new nr _ _ upd_same)) (same_new nz _ _ upd_same)
      · refine while_by (fun σ Hc' => Hc' = H4 ∧ ∃ e, σ = [some (.ref t), some (.ref a0), some (.int e), some (.int p), some (.ref a3), some (.int pp), y6, y7, none, some (.ref L), none, none] ∧ 1 ≤ e ∧ e ≤ q ∧ ∀ n, e ≤ n → n < q → decide (n ∈ fs) = decide (n % pp ∈ asc rs 0 pp))
          (fun σ _ => lastI σ[2]?) ⟨rfl, q, rfl, q1, Int.le_refl _, fun n a b => by omega⟩ (fun σ Hc' hP => ?_) ?_
        · obtain ⟨rfl, e, rfl, e1, eq, same⟩ := hP
          refine ⟨_, rfl, e, 1, rfl, rfl, _, rfl, ifB (fun g => ?_) (fun g => ?_)⟩
          · have g := of_decide_eq_true g
            refine ⟨_, rfl, _, rfl, e, 1, rfl, rfl, t, a0, a3, fs, rs, q, p, e - 1, rfl, rh.d, p1, _, rfl, e, 1, rfl, rfl, .inl ⟨_, rfl, _, rfl, e - 1, pp, rfl, rfl, by omega, _, rfl, L, _, rfl, .inl (SqL.of hL4), rfl, flat_ints, rfl, _, rfl, ?_⟩⟩
            have mc : memC fs q p rs (e - 1) = decide (e - 1 ∈ fs) := by
              unfold memC
              rw [decide_eq_true (show (1 : Int) ≤ e - 1 by omega), Bool.true_and, if_pos (by omega)]
            have ev : decide (V.bl (memC fs q p rs (e - 1)) = V.bl (inV (.int ((e - 1) % pp)) ((asc rs 0 pp).map V.int))) = decide (decide (e - 1 ∈ fs) = decide ((e - 1) % pp ∈ asc rs 0 pp)) := by
              rw [inV_int, dec_bls, mc]
            refine ifB (fun z => ?_) (fun z => ?_)
            · have z := of_decide_eq_true (ev.symm.trans z)
              refine ⟨_, rfl, e, 1, rfl, rfl, ⟨rfl, e - 1, rfl, by omega, by omega, fun n a1 a2 => ?_⟩, ?_⟩
              · rcases (show n = e - 1 ∨ e ≤ n by omega) with h | h
                · rw [h]
                  exact z
                · exact same n h a2
              · show (e - 1).toNat < e.toNat
                omega
            · have z := of_decide_eq_false (ev.symm.trans z)
              exact hR _ _ ⟨rfl, e, rfl, e1, eq, same, .inr z⟩
          · have g := of_decide_eq_false g
            exact hR _ _ ⟨rfl, e, rfl, e1, eq, same, .inl (by omega)⟩
        · intro σ H Q Q' m h
          obtain ⟨v, hv, i, j, r1, r2, b, hb, h⟩ := h
          refine ⟨v, hv, i, j, r1, r2, b, hb, ?_⟩
          cases b with
          | false => exact iteF (m _ _ (by rw [if_neg Bool.false_ne_true] at h; exact h))
          | true =>
            rw [if_pos rfl] at h
            obtain ⟨v1, h1, v2, h2, i2, j2, r3, r4, x1, x2, x3, x4, x5, x6, x7, x8, r5, x9, x10, v3, h3, i3, j3, r6, r7, h⟩ := h
            refine iteT ⟨v1, h1, v2, h2, i2, j2, r3, r4, x1, x2, x3, x4, x5, x6, x7, x8, r5, x9, x10, v3, h3, i3, j3, r6, r7, ?_⟩
            rcases h with ⟨i4, r8, v5, h5, i5, j5, r9, r10, c5, v6, h6, a6, y6, r11, o6, f6, f7, sc, b7, hb7, h⟩ | ⟨i4, r8, v5, h5, i5, j5, r9, r10, c5, v6, h6, a6, y6, r11, o6, f6, f7, sc, b7, hb7, h⟩
            · exact .inl ⟨i4, r8, v5, h5, i5, j5, r9, r10, c5, v6, h6, a6, y6, r11, o6, f6, f7, sc, b7, hb7, m _ _ h⟩
            · exact .inr ⟨i4, r8, v5, h5, i5, j5, r9, r10, c5, v6, h6, a6, y6, r11, o6, f6, f7, sc, b7, hb7, m _ _ h⟩

/-- the law's own text -/
def spLText (K : PySem.W.Frag) : Sp := fun vs H Q _ => ∃ (t a c : Addr) (fs rs : List Int) (e p : Int), vs = [.ref t] ∧ H t = some (.tup [.ref a, .int e, .int p, .ref c]) ∧ H a = some (.tup (fs.map V.int)) ∧ H c = some (.tup (rs.map V.int)) ∧ Small fs ∧ Small rs ∧ fs.length ≤ 1000 ∧ rs.length ≤ 1000 ∧ 0 ≤ e ∧ e < 10 ^ 9 ∧ 0 ≤ p ∧ p < 10 ^ 9 ∧
  ∀ H', Same H H' → Q (.str (calText fs e p rs)) H'
theorem ok_ltext (T : Txt K mg) : FnOk P w K mg base CX0 1 T.a__law_cal_text T.d__law_cal_text ["_law_form"] (spLText K) := by
  refine T.F__law_cal_text.ok sc__law_cal_text (fun vs H Q E h => ?_) (fun cdv A outer s H vs Q E hr h => ?_)
  · obtain ⟨t, a, c, fs, rs, e, p, rfl, _⟩ := h
    rfl
  · obtain ⟨t, a, c, fs, rs, e, p, rfl, ht, hF, hR, sf, sr, lf, lr, e0, e1, p0, p1, k⟩ := h
    have nd := sc__law_cal_text.nd
    refine ⟨_, (pss_cons (ps_asg (pv 0) (pg_tup rfl (pgs_cons (pg_name (i := 1) nd rfl (Or.inl rfl)) (pgs_cons (pg_name (i := 2) nd rfl (Or.inl rfl)) (pgs_cons (pg_name (i := 3) nd rfl (Or.inl rfl)) (pgs_cons (pg_name (i := 4) nd rfl (Or.inl rfl)) pgs_nil))))))
    (pss_cons (ps_set (i := 5) nd rfl (Or.inl rfl) (pe_ifExp (pt_cmpR (op_neD hr.units) (pv 1) (pe_tup pa_nil) (nomark _)) (pe_join pe_str (pe_lc (own := [("_law_one", 6)]) (g := (gName 6)) (by rfl) nd (pi_tup (pv 1)) (blkOk_by (N := ["_law_form", "_law_few", "_law_start", "_law_period", "_law_rests", "_law_text", "_law_one", "_law_tail"]) (sc := defScope s__law_cal_text) (own := [("_law_one", 6)]) (by decide +kernel)) (fun _ _ _ _ _ => by exact (pg_name (i := 6) nd rfl (Or.inl rfl))) (fun _ _ _ _ _ => by exact pts_nil) (fun _ _ _ _ _ => by exact (pe_callTy call_str_int (by rfl) T.z_str (by decide +kernel) (pa_cons (pv 6) pa_nil))))) pe_str))
    (pss_cons (ps_set (i := 7) nd rfl (Or.inl rfl) (pe_op op_add_str (pe_op op_add_str (pe_op op_add_str (pe_op op_add_str (pe_op op_add_str pe_str (pe_callTy call_str_int (by rfl) T.z_str (by decide +kernel) (pa_cons (pv 2) pa_nil))) pe_str) (pe_callTy call_str_int (by rfl) T.z_str (by decide +kernel) (pa_cons (pv 3) pa_nil))) pe_str) (pe_join pe_str (pe_lc (own := [("_law_one", 6)]) (g := (gName 6)) (by rfl) nd (pi_tup (pv 4)) (blkOk_by (N := ["_law_form", "_law_few", "_law_start", "_law_period", "_law_rests", "_law_text", "_law_one", "_law_tail"]) (sc := defScope s__law_cal_text) (own := [("_law_one", 6)]) (by decide +kernel)) (fun _ _ _ _ _ => by exact (pg_name (i := 6) nd rfl (Or.inl rfl))) (fun _ _ _ _ _ => by exact pts_nil) (fun _ _ _ _ _ => by exact (pe_callTy call_str_int (by rfl) T.z_str (by decide +kernel) (pa_cons (pv 6) pa_nil)))))))
    (pss_one (ps_ret (pe_op op_add_str (pv 5) (pe_ifExp (pt_cmpR (op_neD hr.units) (pv 4) (pe_tup pa_nil) (nomark _)) (pv 7) pe_str))))))), ?_⟩
    refine ⟨_, rfl, t, _, rfl, SqT.of ht, rfl, _, _, rfl, _, _, rfl, _, _, rfl, _, _, rfl, rfl, ?_⟩
    dsimp only [gName]
    have fl : (front fs).length ≤ 20000 := by
      unfold front
      split
      · decide
      · have := spaced_len sf
        omega
    have e9 := sizeLine_eq
    have l1 := nS_len e0 e1
    have l2 := nS_len p0 p1
    have l3 := spaced_len sr
    have w1 : (Str.ofString " from ").length = 6 := by decide
    have w2 : (Str.ofString " of ").length = 4 := by decide
    have w3 : (Str.ofString ": ").length = 2 := by decide
    have w4 : (Str.ofString "").length = 0 := by decide
    have g1 : e.natAbs.log2 < 1920 := (small_int e0 e1).1
    have g2 : p.natAbs.log2 < 1920 := (small_int p0 p1).1
    have l1' : (Str.ofString (toString e)).length ≤ 10 := l1
    have l2' : (Str.ofString (toString p)).length ≤ 10 := l2
    have bl : blank.length = 1 := by decide
    refine asg_go (val_same (v := .str (front fs)) (fun R hR' => ?_) fun H1 s1 => ?_)
    · refine ⟨_, rfl, szL (Nat.le_of_ble_eq_true rfl), fun T0 nT => ⟨_, _, dp_tints (same_new nT _ _ hF), dp_tints (ns := []) upd_same, ok_tints.shaped (by decide), (ok_tints (ns := [])).shaped (by decide), _, rfl, ?_⟩⟩
      rw [eqv_tints]
      have sT := same_new (o := .tup []) nT
      unfold front at hR'
      by_cases h0 : fs = []
      · rw [if_pos h0] at hR'
        exact ifF (by rw [decide_eq_true h0]; rfl) (hR' _ sT)
      · rw [if_neg h0] at hR'
        refine ifT (by rw [decide_eq_false h0]; rfl) ⟨⟨_, rfl⟩, ?_⟩
        refine lmapT (sl := 6) (fun n => .str (nS n)) (fun R h => ⟨_, rfl, h⟩) (SqT.of (sT _ _ hF)) (by omega) (fun n hn Hc R sc hR => ?_) (fun D H' nD s' hD => ?_)
        · have := sf n hn
          exact ⟨_, rfl, _, rfl, (small_int this.1 this.2).1, hR⟩
        · have e : fs.map (fun n => V.str (nS n)) = (fs.map nS).map V.str := by rw [List.map_map]; rfl
          rw [e] at hD
          have sl := sum_len sf
          exact ⟨blank, D, _, rfl, rfl, .inl (SqL.of hD), by rw [bl, List.length_map]; omega, hR' H' (sT.trans s')⟩
    dsimp only [gName]
    refine asg_go (val_same (v := .str (Str.ofString " from " ++ nS e ++ Str.ofString " of " ++ nS p ++ Str.ofString ": " ++ spaced rs)) (fun R hR' => ?_) fun H2 s2 => ?_)
    · refine ⟨_, rfl, e, rfl, g1, _, _, rfl, rfl, by omega, _, _, rfl, rfl, by simp only [Str.length_append]; omega, _, rfl, p, rfl, g2, _, _, rfl, rfl, by simp only [Str.length_append]; omega, _, _, rfl, rfl, by simp only [Str.length_append]; omega, ⟨_, rfl⟩, ?_⟩
      refine lmapT (sl := 6) (fun n => .str (nS n)) (fun R h => ⟨_, rfl, h⟩) (SqT.of (s1 _ _ hR)) (by omega) (fun n hn Hc R sc hR => ?_) (fun D H' nD s' hD => ?_)
      · have := sr n hn
        exact ⟨_, rfl, _, rfl, (small_int this.1 this.2).1, hR⟩
      · have e : rs.map (fun n => V.str (nS n)) = (rs.map nS).map V.str := by rw [List.map_map]; rfl
        rw [e] at hD
        have sl := sum_len sr
        refine ⟨blank, D, _, rfl, rfl, .inl (SqL.of hD), by rw [bl, List.length_map]; omega, _, _, rfl, rfl, ?_, hR' H' s'⟩
        have l3' : (Txt.join blank (rs.map nS)).length ≤ 11 * rs.length := l3
        simp only [Str.length_append]
        omega
    dsimp only [gName]
    have s12 := s1.trans s2
    refine ret_go ⟨_, rfl, _, rfl, szL (Nat.le_of_ble_eq_true rfl), fun T0 nT => ⟨_, _, dp_tints (same_new nT _ _ (s12 _ _ hR)), dp_tints (ns := []) upd_same, ok_tints.shaped (by decide), (ok_tints (ns := [])).shaped (by decide), _, rfl, ?_⟩⟩
    rw [eqv_tints]
    have kk := k _ (s12.trans (same_new (o := .tup []) nT))
    unfold calText at kk
    by_cases h0 : rs = []
    · rw [if_pos h0] at kk
      refine ifF (by rw [decide_eq_true h0]; rfl) ⟨_, _, rfl, rfl, by omega, ?_⟩
      rw [show front fs ++ Str.ofString "" = front fs from Str.append_empty _]
      exact kk
    · rw [if_neg h0] at kk
      refine ifT (by rw [decide_eq_false h0]; rfl) ⟨_, rfl, _, _, rfl, rfl, by simp only [Str.length_append]; omega, ?_⟩
      simp only [Str.append_assoc] at kk ⊢
      exact kk

end
end K32
namespace K32
open PySem PySem.Spec PyProof.Rows L2 Rs LamX NdefX
local macro_rules | `(tactic| walk_at "om") => `(tactic| first | omega | (dsimp only; omega))
local macro_rules | `(tactic| walk_at "side") => `(tactic| first | omega | (dsimp only; omega) | decide | (unfold CMul; omega) | (unfold CDiv; omega) | (unfold CPow; omega) | exact wide_div (b := 64) (by omega) (by omega) (by decide) (by decide))
local macro_rules | `(tactic| walk_at "hp") => `(tactic| first | assumption | exact upd_same)
local macro_rules | `(tactic| walk_at "sq") => `(tactic| first | assumption | exact SqL.of (by assumption) | exact SqL.of upd_same)
local macro_rules | `(tactic| walk_at "st") => `(tactic| first
  | refine ⟨_, rfl, ?_⟩
  | (refine ⟨_, _, rfl, rfl, And.intro ?side ?_⟩; (case side => walk_at "side"))
  | refine ⟨_, _, rfl, rfl, ?_⟩
  | (refine' ⟨_, _, _, _, rfl, rfl, SqL.of ?hp, ?atx, ?_⟩; (case hp => walk_at "hp"); (case atx => exact rfl))
  | (refine' ⟨_, _, _, _, rfl, rfl, ?hp, ?atx, ?_⟩; (case hp => walk_at "hp"); (case atx => exact rfl))
  | (refine' ⟨_, _, rfl, Or.inl ?sq, ?_⟩; (case sq => walk_at "sq"))
  | refine Or.inl ⟨_, rfl, ?_⟩
  | refine Or.inr ⟨_, rfl, ?_⟩)
local macro_rules | `(tactic| walk_at "evd") => `(tactic| first
  | exact evd_int
  | exact evd_str
  | exact evd_non
  | exact evd_bl
  | exact evd_nil
  | (refine evd_cons ?_ (fun _ => ?_) <;> walk_at "evd")
  | (refine evd_tup ?_ (Nat.le_of_ble_eq_true rfl); walk_at "evd"))

section
variable {P : Program} {w : World} {K : PySem.W.Frag} {mg : Str → Option Value} {base : Heap}
def fndN (f : Int → Bool) (hi : Int) : List Int := ((List.range (hi - 1).toNat).map fun i : Nat => 1 + (i : Int)).filter f
theorem fnd_mem {f : Int → Bool} {hi n : Int} : n ∈ fndN f hi ↔ 1 ≤ n ∧ n < hi ∧ f n = true := by
  unfold fndN
  rw [List.mem_filter, List.mem_map]
  constructor
  · rintro ⟨⟨i, hi', rfl⟩, h⟩
    rw [List.mem_range] at hi'
    exact ⟨by omega, by omega, h⟩
  · rintro ⟨a, b, h⟩
    exact ⟨⟨(n - 1).toNat, List.mem_range.mpr (by omega), by omega⟩, h⟩
theorem fnd_len {f : Int → Bool} {hi : Int} : (fndN f hi).length ≤ (hi - 1).toNat := by
  unfold fndN
  refine Nat.le_trans (List.length_filter_le _ _) ?_
  rw [List.length_map, List.length_range]
  exact Nat.le_refl _
/-- the set that is seen up to one period behind S -/
theorem seen_mem {f : Int → Bool} {S l n : Int} (l1 : 1 ≤ l) (S1 : 1 ≤ S) (per : ∀ a b, S ≤ a → S ≤ b → a % l = b % l → f a = f b) (n1 : 1 ≤ n) :
    memC ((fndN f (S + l)).filter fun n => decide (n < S)) S l (((fndN f (S + l)).filter fun n => decide (S ≤ n)).map fun n => n % l) n = f n := by
  by_cases c : n < S
  · unfold memC
    rw [decide_eq_true n1, Bool.true_and, if_pos c]
    cases h : f n with
    | true => exact decide_eq_true (List.mem_filter.mpr ⟨fnd_mem.mpr ⟨n1, by omega, h⟩, decide_eq_true c⟩)
    | false =>
      refine decide_eq_false fun z => ?_
      have := (fnd_mem.mp (List.mem_filter.mp z).1).2.2
      rw [h] at this
      cases this
  · rw [memC_late n1 (by omega)]
    have r0 := Int.emod_nonneg (n - S) (show l ≠ 0 by omega)
    have r1 := Int.emod_lt_of_pos (n - S) (show 0 < l by omega)
    have em : (S + (n - S) % l) % l = n % l := by
      rw [Int.add_emod_emod]
      congr 1
      omega
    have e2 : f (S + (n - S) % l) = f n := per _ _ (by omega) (by omega) em
    cases h : f n with
    | true =>
      refine decide_eq_true (List.mem_map.mpr ⟨S + (n - S) % l, List.mem_filter.mpr ⟨fnd_mem.mpr ⟨by omega, by omega, by rw [e2]; exact h⟩, decide_eq_true (by omega)⟩, em⟩)
    | false =>
      refine decide_eq_false fun z => ?_
      obtain ⟨m, hm, e⟩ := List.mem_map.mp z
      obtain ⟨hm, sm⟩ := List.mem_filter.mp hm
      have := (fnd_mem.mp hm).2.2
      rw [per m n (of_decide_eq_true sm) (by omega) e, h] at this
      cases this
theorem tup_go {te : TE} {rest : TA} {σ : L2.St} {H : Hp} {Q : VK} (h : te σ H fun x H1 => rest σ H1 fun xs H2 => (x :: xs).length ≤ sizeLine ∧ ∀ p, H2 p = none → Q (.ref p) (upd H2 p (.tup (x :: xs)))) : tTup (tCons te rest) σ H Q := h
/-- what a lambda over two bools answers -/
def spBools (g : Bool → Bool → Bool) : Sp := fun vs H Q _ => ∃ a b : Bool, vs = [.bl a, .bl b] ∧ Q (.bl (g a b)) H
def maxI (a b : Int) : Int := if b > a then b else a
def spMade (P : Program) (w : World) (K : PySem.W.Frag) (mg : Str → Option Value) (base : Heap) : Sp := fun vs H Q _ => ∃ (t a0 a3 u c0 c3 f : Addr) (fs rs FS RS : List Int) (q p Q' P' : Int) (F : NF) (b : Expr) (g : Bool → Bool → Bool), vs = [.ref t, .ref u, .ref f] ∧ RawD K H t a0 a3 fs rs q p ∧ RawD K H u c0 c3 FS RS Q' P' ∧
  1 ≤ q ∧ q ≤ 30 ∧ 1 ≤ p ∧ p ≤ 12 ∧ 1 ≤ Q' ∧ Q' ≤ 30 ∧ 1 ≤ P' ∧ P' ≤ 12 ∧ H f = some (LamO f F b) ∧ H F.c = some (CodeO F.c F.qual) ∧ LamK P w K mg base 1 f F b (spBools g) ∧
  ∀ (m d0 d3 : Addr) (es ts : List Int) (l : Int) (H' : Hp), Same H H' → RawH H' m d0 d3 es ts (maxI q Q') l → 1 ≤ l → l ≤ p * P' → p ∣ l → P' ∣ l → (∀ n, 1 ≤ n → memC es (maxI q Q') l ts n = g (memC fs q p rs n) (memC FS Q' P' RS n)) →
    (∀ n ∈ es, 1 ≤ n ∧ n < maxI q Q') → (∀ n ∈ ts, 0 ≤ n ∧ n < l) → es.length ≤ 1000 → ts.length ≤ 1000 → Q (.ref m) H'
theorem ok_made (T : Txt K mg) : FnOk P w K mg base CX0 3 T.a__law_made_by T.d__law_made_by ["_law_one", "_law_other", "_law_is_in"] (spMade P w K mg base) := by
  have G__law_has : FnOk P w K mg base CX0 1 T.a__law_has T.d__law_has ["_law_raw_here", "_law_number"] (spHas K) := ok_has T
  have G__law_common : FnOk P w K mg base CX0 1 T.a__law_common T.d__law_common ["_law_one", "_law_other"] spCommon := ok_common T
  refine T.F__law_made_by.ok sc__law_made_by (fun vs H Q E h => ?_) (fun cdv A outer s H vs Q E hr h => ?_)
  · obtain ⟨t, a0, a3, u, c0, c3, f, fs, rs, FS, RS, q, p, Q', P', F, b, g, rfl, _⟩ := h
    rfl
  · obtain ⟨t, a0, a3, u, c0, c3, f, fs, rs, FS, RS, q, p, Q', P', F, b, g, rfl, rh, RH, q1, q2, p1, p2, Q1, Q2, P1, P2, hf, hc, hl, k⟩ := h
    have nd := sc__law_made_by.nd
    refine ⟨_, (pss_cons (ps_asg (pe_tup (pa_cons (pe_callB (call_max2 rfl) (by rfl) T.z_max (by decide +kernel) (pa_cons (pe_callTy call_int1 (by rfl) T.z_int (by decide +kernel) (pa_cons (pe_ix ix_tup (pv 0) pe_int (fun _ _ => rfl)) pa_nil)) (pa_cons (pe_callTy call_int1 (by rfl) T.z_int (by decide +kernel) (pa_cons (pe_ix ix_tup (pv 1) pe_int (fun _ _ => rfl)) pa_nil)) pa_nil))) (pa_cons (pe_call G__law_common (hr.mono (by first | decide | omega)) (by rfl) T.m__law_common T.k__law_common T.b__law_common .nil pass0 (pa_cons (pe_ix ix_tup (pv 0) pe_int (fun _ _ => rfl)) (pa_cons (pe_ix ix_tup (pv 1) pe_int (fun _ _ => rfl)) pa_nil))) pa_nil))) (pg_tup rfl (pgs_cons (pg_name (i := 3) nd rfl (Or.inr rfl)) (pgs_cons (pg_name (i := 4) nd rfl (Or.inr rfl)) pgs_nil))))
    (pss_cons (ps_setLc (i := 5) (own := [("_law_at", 6)]) (g := (gName 6)) (by rfl) nd rfl rfl (sw_true rfl rfl rfl (by decide +kernel)) (pi_range2 (by rfl) T.z_range (pa_cons pe_int (pa_cons (pe_op op_add (pv 3) (pv 4)) pa_nil))) (blkOk_by (N := ["_law_one", "_law_other", "_law_is_in", "_law_start", "_law_period", "_law_found", "_law_at", "_law_rests"]) (sc := defScope s__law_made_by) (own := [("_law_at", 6)]) (by decide +kernel)) (fun _ _ _ _ _ => by exact (pg_name (i := 6) nd rfl (Or.inl rfl))) (fun _ _ _ _ _ => by exact pts_one (pt_val (pe_calll (L := LamK P w K mg base 1) (fun _ _ _ _ h => h) hr (by decide) pass0 (i := 2) rfl (by first | exact Or.inl rfl | exact Or.inr (Or.inl rfl) | exact Or.inr (Or.inr rfl)) (pa_cons (pe_call G__law_has (hr.mono (by first | decide | omega)) (by rfl) T.m__law_has T.k__law_has T.b__law_has .nil pass0 (pa_cons (pv 0) (pa_cons (pv 6) pa_nil))) (pa_cons (pe_call G__law_has (hr.mono (by first | decide | omega)) (by rfl) T.m__law_has T.k__law_has T.b__law_has .nil pass0 (pa_cons (pv 1) (pa_cons (pv 6) pa_nil))) pa_nil))))) (fun _ _ _ _ _ => by exact (pv 6)))
    (pss_cons (ps_setLc (i := 7) (own := [("_law_at", 6)]) (g := (gName 6)) (by rfl) nd rfl rfl (sw_true rfl rfl rfl (by decide +kernel)) (pi_list (pv 5)) (blkOk_by (N := ["_law_one", "_law_other", "_law_is_in", "_law_start", "_law_period", "_law_found", "_law_at", "_law_rests"]) (sc := defScope s__law_made_by) (own := [("_law_at", 6)]) (by decide +kernel)) (fun _ _ _ _ _ => by exact (pg_name (i := 6) nd rfl (Or.inl rfl))) (fun _ _ _ _ _ => by exact pts_one (pt_cmpR op_ge (pv 6) (pv 3) (nomark _))) (fun _ _ _ _ _ => by exact (pe_op op_mod (pe_callTy call_int1 (by rfl) T.z_int (by decide +kernel) (pa_cons (pv 6) pa_nil)) (pv 4))))
    (pss_one (ps_ret (pe_tup (pa_cons (pe_lc (own := [("_law_at", 6)]) (g := (gName 6)) (by rfl) nd (pi_list (pv 5)) (blkOk_by (N := ["_law_one", "_law_other", "_law_is_in", "_law_start", "_law_period", "_law_found", "_law_at", "_law_rests"]) (sc := defScope s__law_made_by) (own := [("_law_at", 6)]) (by decide +kernel)) (fun _ _ _ _ _ => by exact (pg_name (i := 6) nd rfl (Or.inl rfl))) (fun _ _ _ _ _ => by exact pts_one (pt_cmpR op_lt (pv 6) (pv 3) (nomark _))) (fun _ _ _ _ _ => by exact (pv 6))) (pa_cons (pv 3) (pa_cons (pv 4) (pa_cons (pv 7) pa_nil)))))))))), ?_⟩
    refine ⟨_, rfl, _, _, _, _, rfl, rfl, SqT.of rh.t, rfl, .inl ⟨_, rfl, ?_⟩⟩
    refine ⟨_, rfl, _, _, _, _, rfl, rfl, SqT.of RH.t, rfl, .inl ⟨_, rfl, _, _, rfl, ?_⟩⟩
    refine ⟨_, rfl, _, _, _, _, rfl, rfl, SqT.of rh.t, rfl, _, rfl, _, _, _, _, rfl, rfl, SqT.of RH.t, rfl, p, P', rfl, p1, by omega, P1, by omega, fun l l1 l2 d1 d2 => ?_⟩
    refine ⟨szL (Nat.le_of_ble_eq_true rfl), fun T0 nT => ⟨T0, _, rfl, SqT.of upd_same, rfl, _, _, rfl, _, _, rfl, rfl, ?_⟩⟩
    have s1 := same_new (H := H) (o := .tup [.int (maxI q Q'), .int l]) nT
    show _
    obtain ⟨S, hS⟩ : ∃ S, S = maxI q Q' := ⟨_, rfl⟩
    have S1 : q ≤ S ∧ Q' ≤ S ∧ S ≤ 30 ∧ 1 ≤ S := by
      rw [hS]
      unfold maxI
      split <;> omega
    have eS : (if Q' > q then Q' else q) = S := hS.symm
    rw [eS]
    have l3 : l ≤ 144 := by
      have := Int.mul_le_mul p2 P2 (by omega) (by decide)
      omega
    rw [← hS] at s1 k
    dsimp only [gName]
    generalize upd H T0 _ = H1 at s1 ⊢
    have rh := rh.same s1
    have RH := RH.same s1
    have hf := s1 _ _ hf
    have hc := s1 _ _ hc
    have hfo : ∃ h, h = fun n => g (memC fs q p rs n) (memC FS Q' P' RS n) := ⟨_, rfl⟩
    obtain ⟨h, eh⟩ := hfo
    refine asg_go (lcond (sl := 6) (lo := 1) (hi := S + l) h (by decide) (by decide) (by omega) (by omega) (fun R hR => ⟨_, rfl, _, rfl, S, l, rfl, rfl, hR⟩) (Nat.le_of_ble_eq_true rfl)
      (fun n Hc R n1 n2 sc hR => ?_) fun D H2 hD s2 hDl => ?_)
    · refine ⟨f, F, b, spBools g, rfl, sc _ _ hf, hl, _, rfl, _, rfl, t, a0, a3, fs, rs, q, p, n, rfl, rh.same sc, p1, ?_⟩
      refine ⟨_, rfl, _, rfl, u, c0, c3, FS, RS, Q', P', n, rfl, RH.same sc, P1, sc _ _ hf, sc _ _ hc, _, _, rfl, _, rfl, ?_⟩
      rw [eh] at hR
      exact hR
    have hDl : H2 D = some (.lst ((fndN h (S + l)).map V.int)) := hDl
    have fl := @fnd_len h (S + l)
    dsimp only [gName]
    refine asg_go (lsel (sl := 6) (fun n => decide (S ≤ n)) (fun n => V.int (n % l)) (fun R hR => ⟨_, rfl, hR⟩) hDl (by omega) (fun n hn Hc R sc hR => ⟨_, rfl, _, rfl, n, S, rfl, rfl, _, rfl, hR Hc (Same.refl _)⟩)
      (fun n hn Hc R sc hR => ⟨_, rfl, .inl ⟨_, rfl, _, rfl, n, l, rfl, rfl, by omega, hR Hc (Same.refl _)⟩⟩) fun D2 H3 hD2 s3 hD2l => ?_)
    have eM : (((fndN h (S + l)).filter fun n => decide (S ≤ n)).map fun n => V.int (n % l)) = ((((fndN h (S + l)).filter fun n => decide (S ≤ n)).map fun n => n % l).map V.int) := by
      rw [List.map_map]
      rfl
    rw [eM] at hD2l
    have hDl := s3 _ _ hDl
    dsimp only [gName]
    refine ret_go (tup_go ?_)
    refine lsel (sl := 6) (fun n => decide (n < S)) (fun n => V.int n) (fun R hR => ⟨_, rfl, hR⟩) hDl (by omega) (fun n hn Hc R sc hR => ⟨_, rfl, _, rfl, n, S, rfl, rfl, _, rfl, hR Hc (Same.refl _)⟩)
      (fun n hn Hc R sc hR => ⟨_, rfl, hR Hc (Same.refl _)⟩) fun D3 H4 hD3 s4 hD3l => ?_
    have hD2l := s4 _ _ hD2l
    have s5 := fun (z : Addr) (nz : H4 z = none) => same_new (H := H4) (o := .tup [.ref D3, .int S, .int l, .ref D2]) nz
    refine ⟨_, rfl, _, rfl, _, rfl, szL (Nat.le_of_ble_eq_true rfl), fun z nz => ?_⟩
    have hD3l : H4 D3 = some (.lst ((((fndN h (S + l)).filter fun n => decide (n < S))).map V.int)) := hD3l
    refine k z D3 D2 _ _ l _ ((((s1.trans s2).trans s3).trans s4).trans (s5 z nz)) ⟨upd_same, s5 z nz _ _ hD3l, s5 z nz _ _ hD2l⟩ l1 l2 d1 d2 (fun n n1 => ?_) (fun n hn => ?_) (fun n hn => ?_) ?_ ?_
    · rw [seen_mem (f := h) l1 S1.2.2.2 (fun a b a1 b1 e => ?_) n1, eh]
      rw [eh]
      show g (memC fs q p rs a) (memC FS Q' P' RS a) = g (memC fs q p rs b) (memC FS Q' P' RS b)
      rw [memC_late (by omega) (by omega), memC_late (by omega) (by omega), memC_late (by omega) (by omega), memC_late (by omega) (by omega)]
      have e1 : a % p = b % p := by rw [← Int.emod_emod_of_dvd a d1, e, Int.emod_emod_of_dvd b d1]
      have e2 : a % P' = b % P' := by rw [← Int.emod_emod_of_dvd a d2, e, Int.emod_emod_of_dvd b d2]
      rw [e1, e2]
    · obtain ⟨hn, c⟩ := List.mem_filter.mp hn
      exact ⟨(fnd_mem.mp hn).1, of_decide_eq_true c⟩
    · obtain ⟨m, hm, rfl⟩ := List.mem_map.mp hn
      exact ⟨Int.emod_nonneg _ (by omega), Int.emod_lt_of_pos _ (by omega)⟩
    · have := List.length_filter_le (fun n => decide (n < S)) (fndN h (S + l))
      omega
    · rw [List.length_map]
      have := List.length_filter_le (fun n => decide (S ≤ n)) (fndN h (S + l))
      omega

theorem cut_ints {fs : List Int} {lo hi : Option Int} : ∃ ms : List Int, cutV (fs.map V.int) lo hi = ms.map V.int ∧ ms.length ≤ fs.length ∧ ∀ n ∈ ms, n ∈ fs := by
  refine ⟨(fs.drop (HT.sIx (fs.map V.int).length 0 lo)).take (HT.sIx (fs.map V.int).length (fs.map V.int).length hi - HT.sIx (fs.map V.int).length 0 lo), ?_, ?_, fun n hn => List.mem_of_mem_drop (List.mem_of_mem_take hn)⟩
  · unfold cutV
    rw [List.map_take, List.map_drop]
  · rw [List.length_take, List.length_drop]
    omega
/-- drawn arguments, and such near them -/
structure RawN (fs rs : List Int) (q p : Int) : Prop where
  q1 : 1 ≤ q
  q2 : q ≤ 15
  p1 : 1 ≤ p
  p2 : p ≤ 12
  f1 : fs.length ≤ 200
  r1 : rs.length ≤ 200
  f2 : ∀ n ∈ fs, 1 ≤ n ∧ n < q
  r2 : ∀ n ∈ rs, 0 ≤ n ∧ n < p
def spNear : Sp := fun vs H Q _ => ∃ (b t a0 a3 : Addr) (fs rs : List Int) (q p : Int), vs = [.ref b, .ref t] ∧ Box H b ∧ RawH H t a0 a3 fs rs q p ∧ a0 ≠ b ∧ a3 ≠ b ∧ RawI fs rs q p 15 12 ∧
  ∀ (u c0 c3 : Addr) (FS RS : List Int) (H' : Hp), RawH H' u c0 c3 FS RS q p → RawN FS RS q p → c0 ≠ b → c3 ≠ b → Box H' b → But b H H' → Q (.ref u) H'
theorem ok_near (T : Txt K mg) : FnOk P w K mg base CX0 2 T.a__law_near T.d__law_near ["_law_box_here", "_law_raw_here"] spNear := by
  have G__law_take : FnOk P w K mg base CX0 1 T.a__law_take T.d__law_take ["_law_box_here", "_law_many"] spTake := ok_take T
  refine T.F__law_near.ok sc__law_near (fun vs H Q E h => ?_) (fun cdv A outer s H vs Q E hr h => ?_)
  · obtain ⟨b, t, a0, a3, fs, rs, q, p, rfl, _⟩ := h
    rfl
  · obtain ⟨b, t, a0, a3, fs, rs, q, p, rfl, hB, rh, ne0, ne3, ri, k⟩ := h
    have nd := sc__law_near.nd
    refine ⟨_, (pss_cons (ps_asg (pv 1) (pg_tup rfl (pgs_cons (pg_name (i := 2) nd rfl (Or.inl rfl)) (pgs_cons (pg_name (i := 3) nd rfl (Or.inl rfl)) (pgs_cons (pg_name (i := 4) nd rfl (Or.inl rfl)) (pgs_cons (pg_name (i := 5) nd rfl (Or.inl rfl)) pgs_nil))))))
    (pss_cons (ps_if (pt_cmpR op_eq (pe_call G__law_take (hr.mono (by first | decide | omega)) (by rfl) T.m__law_take T.k__law_take T.b__law_take .nil pass0 (pa_cons (pv 0) (pa_cons pe_int pa_nil))) pe_int (nomark _)) (pss_one (ps_ret (pe_tup (pa_cons (pe_slice sl_list (pv 2) (po_some pe_int) po_none) (pa_cons (pv 3) (pa_cons (pv 4) (pa_cons (pv 5) pa_nil))))))) pss_nil)
    (pss_one (ps_ret (pe_tup (pa_cons (pv 2) (pa_cons (pv 3) (pa_cons (pv 4) (pa_cons (pe_op op_cat (pe_slice sl_list (pv 5) po_none (po_some (pe_un un_neg pe_int))) (pe_lst (pa_cons (pe_call G__law_take (hr.mono (by first | decide | omega)) (by rfl) T.m__law_take T.k__law_take T.b__law_take .nil pass0 (pa_cons (pv 0) (pa_cons (pv 4) pa_nil))) pa_nil))) pa_nil))))))))), ?_⟩
    refine ⟨_, rfl, t, _, rfl, SqT.of rh.t, rfl, _, _, rfl, _, _, rfl, _, _, rfl, _, _, rfl, rfl, ?_⟩
    dsimp only [gName]
    refine ⟨_, rfl, b, 2, rfl, hB, by decide, by decide, fun r H1 r0 r1 B1 k1 => ⟨rfl, _, rfl, ?_⟩⟩
    have z1 := hB.fz k1
    have rh1 : RawH H1 t a0 a3 fs rs q p := ⟨z1 _ _ trivial rh.t, k1 _ _ ne0 rh.f, k1 _ _ ne3 rh.r⟩
    have q1 := ri.q1
    have q2 := ri.q2
    have p1 := ri.p1
    have p2 := ri.p2
    have f1 := ri.f1
    have r1' := ri.r1
    refine ifB (fun _ => ?_) (fun _ => ?_)
    · obtain ⟨ms, em, lm, hm⟩ := cut_ints (fs := fs) (lo := some 1) (hi := none)
      refine ret_go ⟨_, rfl, _, rfl, a0, _, rfl, SqL.of rh1.f, fun D nD => ?_⟩
      have sD := same_new (o := .lst (cutV (fs.map V.int) (some 1) none)) nD
      refine ⟨_, rfl, _, rfl, _, rfl, szL (Nat.le_of_ble_eq_true rfl), fun T0 nT => ?_⟩
      have sT := same_new (o := .tup [.ref D, .int q, .int p, .ref a3]) nT
      have ss := sD.trans sT
      exact k T0 D a3 ms rs _ ⟨upd_same, sT _ _ (by rw [upd_same, em]), ss _ _ rh1.r⟩ ⟨q1, q2, p1, p2, by omega, by omega, fun n hn => ri.f2 n (hm n hn), ri.r2⟩ (B1.ne_none nD) ne3 (B1.same ss) (k1.trans (But.of_same ss))
    · obtain ⟨ms, em, lm, hm⟩ := cut_ints (fs := rs) (lo := none) (hi := some (-1))
      dsimp only [tNext]
      refine ret_go ⟨_, rfl, _, rfl, _, rfl, _, rfl, ⟨_, rfl, _, rfl, a3, _, rfl, SqL.of rh1.r, fun D nD => ?_⟩⟩
      have sD := same_new (o := .lst (cutV (rs.map V.int) none (some (-1)))) nD
      have neD := B1.ne_none nD
      refine ⟨_, rfl, _, rfl, b, p, rfl, B1.same sD, by omega, by omega, fun x H2 x0 x1 B2 k2 => ?_⟩
      have hD2 := k2 _ _ neD (upd_same (H := H1) (a := D) (o := .lst (cutV (rs.map V.int) none (some (-1)))))
      rw [em] at hD2
      refine ⟨szL (Nat.le_of_ble_eq_true rfl), fun L nL => ⟨D, L, _, _, rfl, rfl, same_new nL _ _ hD2, upd_same, by rw [List.length_map, sizeLine_eq]; simp; omega, fun Z nZ => ?_⟩⟩
      have sL := same_new (o := .lst [.int x]) nL
      have sZ := same_new (o := .lst (ms.map V.int ++ [.int x])) nZ
      refine ⟨szL (Nat.le_of_ble_eq_true rfl), fun T0 nT => ?_⟩
      have sT := same_new (o := .tup [.ref a0, .int q, .int p, .ref Z]) nT
      have ss := (sL.trans sZ).trans sT
      have kk := ((k1.trans (But.of_same sD)).trans k2).trans (But.of_same (b := b) ss)
      have e : ms.map V.int ++ [.int x] = (ms ++ [x]).map V.int := by rw [List.map_append]; rfl
      refine k T0 a0 Z fs (ms ++ [x]) _ ⟨upd_same, ss _ _ (k2 _ _ ne0 (sD _ _ rh1.f)), sT _ _ (by rw [upd_same, e])⟩ ⟨q1, q2, p1, p2, by omega, by rw [List.length_append]; simp; omega, ri.f2, fun n hn => ?_⟩ ne0 ((B2.same sL).ne_none nZ) (B2.same ss) kk
      rcases List.mem_append.mp hn with h | h
      · exact ri.r2 n (hm n h)
      · rw [List.mem_singleton] at h
        omega

end
end K32
namespace K32
open PySem PySem.Spec PyProof.Rows L2 Rs LamX NdefX
local macro_rules | `(tactic| walk_at "om") => `(tactic| first | omega | (dsimp only; omega))
local macro_rules | `(tactic| walk_at "side") => `(tactic| first | omega | (dsimp only; omega) | decide | (unfold CMul; omega) | (unfold CDiv; omega) | (unfold CPow; omega) | exact wide_div (b := 64) (by omega) (by omega) (by decide) (by decide))
local macro_rules | `(tactic| walk_at "hp") => `(tactic| first | assumption | exact upd_same)
local macro_rules | `(tactic| walk_at "sq") => `(tactic| first | assumption | exact SqL.of (by assumption) | exact SqL.of upd_same)
local macro_rules | `(tactic| walk_at "st") => `(tactic| first
  | refine ⟨_, rfl, ?_⟩
  | (refine ⟨_, _, rfl, rfl, And.intro ?side ?_⟩; (case side => walk_at "side"))
  | refine ⟨_, _, rfl, rfl, ?_⟩
  | (refine' ⟨_, _, _, _, rfl, rfl, SqL.of ?hp, ?atx, ?_⟩; (case hp => walk_at "hp"); (case atx => exact rfl))
  | (refine' ⟨_, _, _, _, rfl, rfl, ?hp, ?atx, ?_⟩; (case hp => walk_at "hp"); (case atx => exact rfl))
  | (refine' ⟨_, _, rfl, Or.inl ?sq, ?_⟩; (case sq => walk_at "sq"))
  | refine Or.inl ⟨_, rfl, ?_⟩
  | refine Or.inr ⟨_, rfl, ?_⟩)
local macro_rules | `(tactic| walk_at "evd") => `(tactic| first
  | exact evd_int
  | exact evd_str
  | exact evd_non
  | exact evd_bl
  | exact evd_nil
  | (refine evd_cons ?_ (fun _ => ?_) <;> walk_at "evd")
  | (refine evd_tup ?_ (Nat.le_of_ble_eq_true rfl); walk_at "evd"))

section
variable {P : Program} {w : World} {K : PySem.W.Frag} {mg : Str → Option Value} {base : Heap}
theorem ok_lam {P : Program} {w : World} {K : PySem.W.Frag} {mg : Str → Option Value} {base : Heap} {f c : Addr} {x y q : Str} {params : Arguments} {scope : Scope} {e : Expr} {g : Bool → Bool → Bool} (S : NScope [x, y] [x, y] [] scope)
    (hb : ∀ (pm cdv ctv : Value) (us : List Value), us.length = 2 → bindArgs (PySem.W.kla_fn "<lambda>" q params e scope [] pm cdv ctv) ⟨us, []⟩ = pure ([x, y].zip us))
    (body : ∀ (X : Cx) (a b : Bool), X.N = [x, y] → Vis X.env.scope x → Vis X.env.scope y → ∃ t, PE X e t ∧ ∀ H Q, Q (.bl (g a b)) H → t [some (.bl a), some (.bl b)] H Q)
    (vx : Vis scope x) (vy : Vis scope y) : LamK P w K mg base 1 f ⟨"<lambda>", q, params, [], scope, [], c⟩ e (spBools g) := by
  refine ⟨[x, y], lok_of (N := [x, y]) S rfl (fun pm ctv us hl => hb pm _ ctv us hl) (fun vs H Q E h => ?_) (fun A outer s H vs Q E hr h => ?_)⟩
  · obtain ⟨a, b, rfl, _⟩ := h
    rfl
  · obtain ⟨a, b, rfl, k⟩ := h
    obtain ⟨t, d, r⟩ := body (ncx CX0 P w K mg base [x, y] ⟨"<lambda>", q, params, [], scope, [], c⟩ f A outer s H E) a b rfl vx vy
    exact ⟨t, d, r H Q k⟩
/-- arguments of a set, made by the law -/
def Made (H : Hp) (m : Addr) (f : Int → Bool) : Prop := ∃ (d0 d3 : Addr) (es ts : List Int) (S l : Int), RawH H m d0 d3 es ts S l ∧ TellI es ts S l ∧ S ≤ 600 ∧ ∀ n, 1 ≤ n → memC es S l ts n = f n
theorem RawH.extN {H H' : Hp} {t a0 a3 : Addr} {fs rs : List Int} {q p : Int} (h : RawH H t a0 a3 fs rs q p) (s : ExtN H H') : RawH H' t a0 a3 fs rs q p :=
  ⟨s _ _ h.t (fun _ e => by cases e), s _ _ h.f (fun _ e => by cases e), s _ _ h.r (fun _ e => by cases e)⟩
theorem Made.extN {H H' : Hp} {m : Addr} {f : Int → Bool} (h : Made H m f) (s : ExtN H H') : Made H' m f := by
  obtain ⟨d0, d3, es, ts, S, l, rh, r⟩ := h
  exact ⟨d0, d3, es, ts, S, l, rh.extN s, r⟩
theorem Made.same {H H' : Hp} {m : Addr} {f : Int → Bool} (h : Made H m f) (s : Same H H') : Made H' m f := h.extN (ExtN.of_same s)
theorem SeqD.extN {H H' : Hp} {a : Addr} {ns : List Int} (h : SeqD K H a ns) (s : ExtN H H') : SeqD K H' a ns := by
  rcases h with h | (h | ⟨o, h⟩) | h
  · exact .inl (s _ _ h fun _ e => by cases e)
  · exact .inr (.inl (.inl (s _ _ h fun _ e => by cases e)))
  · exact .inr (.inl (.inr ⟨o, s _ _ h fun _ e => by cases e⟩))
  · exact .inr (.inr h)
theorem RawD.extN {H H' : Hp} {t a0 a3 : Addr} {fs rs : List Int} {q p : Int} (h : RawD K H t a0 a3 fs rs q p) (s : ExtN H H') : RawD K H' t a0 a3 fs rs q p :=
  ⟨s _ _ h.t (fun _ e => by cases e), SeqD.extN h.f s, SeqD.extN h.r s⟩
/-- the list at L grows: nothing else changes -/
theorem lst_ne {H : Hp} {L a x : Addr} {xs : List V} {ns : List Int} (hL : H L = some (.lst (.ref x :: xs))) (h : H a = some (.lst (ns.map V.int))) : a ≠ L := by
  rintro rfl
  rw [hL] at h
  cases ns <;> simp at h
theorem tup_ne {H : Hp} {L a : Addr} {xs ys : List V} (hL : H L = some (.lst xs)) (h : H a = some (.tup ys)) : a ≠ L := by
  rintro rfl
  rw [hL] at h
  cases h
theorem RawH.app {H : Hp} {L x t a0 a3 : Addr} {xs : List V} {o : HO} {fs rs : List Int} {q p : Int} (h : RawH H t a0 a3 fs rs q p) (hL : H L = some (.lst (.ref x :: xs))) : RawH (upd H L o) t a0 a3 fs rs q p :=
  ⟨by rw [upd_ne (tup_ne hL h.t)]; exact h.t, by rw [upd_ne (lst_ne hL h.f)]; exact h.f, by rw [upd_ne (lst_ne hL h.r)]; exact h.r⟩
theorem Made.app {H : Hp} {L x m : Addr} {xs : List V} {o : HO} {f : Int → Bool} (h : Made H m f) (hL : H L = some (.lst (.ref x :: xs))) : Made (upd H L o) m f := by
  obtain ⟨d0, d3, es, ts, S, l, rh, r⟩ := h
  exact ⟨d0, d3, es, ts, S, l, rh.app hL, r⟩
theorem SeqD.app {H : Hp} {L x a : Addr} {xs : List V} {o : HO} {ns : List Int} (h : SeqD K H a ns) (hL : H L = some (.lst (.ref x :: xs))) : SeqD K (upd H L o) a ns := by
  rcases h with h | (h | ⟨u, h⟩) | h
  · exact .inl (by rw [upd_ne (lst_ne hL h)]; exact h)
  · exact .inr (.inl (.inl (by rw [upd_ne (tup_ne hL h)]; exact h)))
  · refine .inr (.inl (.inr ⟨u, ?_⟩))
    rw [upd_ne (fun e => by rw [e, hL] at h; cases h)]
    exact h
  · exact .inr (.inr h)
theorem RawD.app {H : Hp} {L x t a0 a3 : Addr} {xs : List V} {o : HO} {fs rs : List Int} {q p : Int} (h : RawD K H t a0 a3 fs rs q p) (hL : H L = some (.lst (.ref x :: xs))) : RawD K (upd H L o) t a0 a3 fs rs q p :=
  ⟨by rw [upd_ne (tup_ne hL h.t)]; exact h.t, SeqD.app h.f hL, SeqD.app h.r hL⟩
theorem tabs_app {TT : List NTab} {H : Hp} {L : Addr} {xs : List V} {o : HO} (t : TabsN TT H) (hL : H L = some (.lst xs)) : TabsN TT (upd H L o) := by
  intro p hp
  obtain ⟨ps, h1, h2, h3⟩ := t p hp
  have n1 : p.1 ≠ L := fun e => by
    rw [e, hL] at h1
    cases h1
  refine ⟨ps, by rw [upd_ne n1]; exact h1, h2, fun pos cv hc => ?_⟩
  obtain ⟨c, e1, e2⟩ := h3 pos cv hc
  have n2 : c ≠ L := fun e => by
    rw [e, hL] at e2
    unfold CodeO at e2
    cases e2
  exact ⟨c, e1, by rw [upd_ne n2]; exact e2⟩
theorem extN_app {H0 H : Hp} {L : Addr} {o : HO} (s : ExtN H0 H) (n : H0 L = none) : ExtN H0 (upd H L o) := fun a u h t => by
  rw [upd_ne (ne_of_none h n)]
  exact s a u h t
theorem made_go {TT : List NTab} {qq : Str} {params : Arguments} {scope : Scope} {body : Expr} {i j : Nat} {σ : L2.St} {H : Hp} {Q : VK} {t a0 a3 u c0 c3 : Addr} {fs rs FS RS : List Int} {q p Q' P' : Int} (g : Bool → Bool → Bool)
    (h0 : σ[i]? = some (some (.ref t))) (h1 : σ[j]? = some (some (.ref u))) (rh : RawD K H t a0 a3 fs rs q p) (RH : RawD K H u c0 c3 FS RS Q' P') (q1 : 1 ≤ q) (q2 : q ≤ 30) (p1 : 1 ≤ p) (p2 : p ≤ 12) (Q1 : 1 ≤ Q') (Q2 : Q' ≤ 30) (P1 : 1 ≤ P') (P2 : P' ≤ 12)
    (tb : TabsN TT H) (hl : ∀ f c', LamK P w K mg base 1 f ⟨"<lambda>", qq, params, [], scope, [], c'⟩ body (spBools g))
    (k : ∀ m H', ExtN H H' → (∀ b, H' b = Option.none → H b = Option.none) → TabsN TT H' → Made H' m (fun n => g (memC fs q p rs n) (memC FS Q' P' RS n)) → Q (.ref m) H') :
    tCall (spMade P w K mg base) [] E0 (tCons (tVar i) (tCons (tVar j) (tCons (tLm TT qq params scope body) tNil))) σ H Q := by
  refine ⟨_, h0, _, h1, tb, fun f c' H1 e1 n1 t1 f0 f1 k1 => ?_⟩
  refine ⟨t, a0, a3, u, c0, c3, f, fs, rs, FS, RS, q, p, Q', P', _, _, g, rfl, rh.extN e1, RH.extN e1, q1, q2, p1, p2, Q1, Q2, P1, P2, f1, k1, hl f c', fun m d0 d3 es ts l H' s2 mh l1 l2 d1 d2 mem i1 i2 i3 i4 => ?_⟩
  have S1 : 1 ≤ maxI q Q' ∧ maxI q Q' ≤ 30 := by
    unfold maxI
    split <;> omega
  have l3 : l ≤ 144 := by
    have := Int.mul_le_mul p2 P2 (by omega) (by decide)
    omega
  refine k m H' (e1.trans (ExtN.of_same s2)) (fun b hb => n1 b (s2.free hb)) (Rs.TabsN.same t1 s2) ⟨d0, d3, es, ts, _, l, mh, ⟨S1.1, by omega, l1, by omega, i3, i4, i1, i2⟩, by omega, mem⟩
theorem lst_go {te : TE} {rest : TA} {σ : L2.St} {H : Hp} {Q : VK} (h : te σ H fun x H1 => rest σ H1 fun xs H2 => (x :: xs).length ≤ sizeLine ∧ ∀ p, H2 p = none → Q (.ref p) (upd H2 p (.lst (x :: xs)))) : tLst (tCons te rest) σ H Q := h
/-- the law's text of a set that it made -/
theorem text_go {i : Nat} {σ : L2.St} {H : Hp} {Q : VK} {m : Addr} {f : Int → Bool} (h0 : σ[i]? = some (some (.ref m))) (hm : Made H m f) (k : ∀ y H', Same H H' → TextOf f y → Q (.str y) H') :
    tCall (spLText K) [] E0 (tCons (tCall (spLeast K) [] E0 (tCons (tVar i) tNil)) tNil) σ H Q := by
  obtain ⟨d0, d3, es, ts, S, l, rh, tl, S6, mem⟩ := hm
  have q1 := tl.q1
  have p1 := tl.p1
  have p2 := tl.p2
  refine ⟨_, h0, m, d0, d3, es, ts, S, l, rfl, rh, q1, S6, p1, p2, tl.r2, tl.r1, fun H' L pf pr e pp s1 lp ls hL hpf hpr => ?_⟩
  have a1 := lp.p1
  have a2 := lp.le
  have c1 := ls.e1
  have c2 := ls.le
  have b1 := @asc_len es 1 e
  have b2 := @asc_len ts 0 pp
  exact ⟨L, pf, pr, _, _, e, pp, rfl, hL, hpf, hpr, asc_small (by decide) (by omega), asc_small (by decide) (by omega), by omega, by omega, by omega, by omega, by omega, by omega, fun H2 s2 => k _ H2 (s1.trans s2) ⟨es, ts, S, l, e, pp, lp, ls, tl, mem, rfl⟩⟩
/-- [e for x in l], e told by what holds of it -/
theorem lmapE {L : Addr} {xs : List V} {te el : TE} {sl : Nat} {σ : L2.St} {H : Hp} {Q : VK} {K' : PySem.W.Frag} (Pr : Nat → V → Prop) (hte : ∀ R : VK, R (.ref L) H → te σ H R) (hL : H L = some (.lst xs)) (ln : xs.length ≤ 3000)
    (hel : ∀ (j : Nat) (x : V), xs[j]? = some x → ∀ (Hc : Hp) (R : VK), Same H Hc → (∀ v Hd, Same Hc Hd → Pr j v → R v Hd) → el ((wipe σ [sl]).set sl (some x)) Hc R)
    (k : ∀ D H' ys, H D = none → Same H H' → H' D = some (.lst ys) → ys.length = xs.length → (∀ j v, ys[j]? = some v → Pr j v) → Q (.ref D) H') : tLc (iList K' te) (gName sl) tYes el [sl] σ H Q := by
  refine hte _ ⟨L, rfl, ⟨_, SqL.of hL⟩, fun D hD => lc_it walk_list (fun i Hc => ∃ ys, Hc D = some (.lst ys) ∧ ys.length = i ∧ (∀ j v, ys[j]? = some v → Pr j v) ∧ Same H Hc) ⟨[], upd_same, rfl, fun j v e => by simp at e, same_new hD⟩ (fun i Hc _ hR => by obtain ⟨_, _, _, _, s⟩ := hR; exact s.seq (SqL.of hL)) (fun j x Hc H' hj hR hy => ?_) (fun Hc hR => by obtain ⟨ys, a, b, c, s⟩ := hR; exact k D Hc ys hD s a b c)⟩
  obtain ⟨rfl, hx⟩ := hy
  obtain ⟨ys, hDc, ly, hys, sc⟩ := hR
  refine ⟨by simp [wipe, List.set_set], ?_⟩
  dsimp only [tYes]
  rw [if_pos rfl]
  have lt : j < xs.length := (List.getElem?_eq_some_iff.mp hx).1
  refine hel j x hx _ _ sc fun v Hd sd pv => ?_
  refine ⟨_, sd _ _ hDc, szL2 (by omega), ys ++ [v], upd_same, by rw [List.length_append, ly]; rfl, fun j' v' e => ?_, same_lst (sc.trans sd) hD⟩
  by_cases c : j' < ys.length
  · rw [List.getElem?_append_left c] at e
    exact hys j' v' e
  · rw [List.getElem?_append_right (by omega)] at e
    have z : j' - ys.length = 0 := by
      by_cases d : j' - ys.length = 0
      · exact d
      · rw [List.getElem?_eq_none (by simp; omega)] at e
        cases e
    rw [z] at e
    simp at e
    rw [← e, show j' = j by omega]
    exact pv
def spDues (T : Txt K mg) : Sp := fun vs H Q _ => ∃ (t a0 a3 u c0 c3 : Addr) (fs rs FS RS : List Int) (q p Q' P' : Int), vs = [.ref t, .ref u] ∧ RawD K H t a0 a3 fs rs q p ∧ RawD K H u c0 c3 FS RS Q' P' ∧
  1 ≤ q ∧ q ≤ 30 ∧ 1 ≤ p ∧ p ≤ 12 ∧ 1 ≤ Q' ∧ Q' ≤ 30 ∧ 1 ≤ P' ∧ P' ≤ 12 ∧ TabsN (tabsT T) H ∧
  ∀ (D : Addr) (y1 y2 y3 y4 : Str) (H' : Hp), ExtN H H' → (∀ b, H' b = Option.none → H b = Option.none) → TabsN (tabsT T) H' → H' D = some (.lst [.str y1, .str y2, .str y3, .str y4]) →
    TextOf (fun n => memC fs q p rs n && memC FS Q' P' RS n) y1 → TextOf (fun n => memC fs q p rs n || memC FS Q' P' RS n) y2 → TextOf (fun n => memC fs q p rs n && !memC FS Q' P' RS n) y3 → TextOf (fun n => xor (memC fs q p rs n) (memC FS Q' P' RS n)) y4 → Q (.ref D) H'
theorem ok_dues (T : Txt K mg) (hTB : TabB base mg T.tc__law_dues T.tp__law_dues) : FnOk P w K mg base CX0 4 T.a__law_dues T.d__law_dues ["_law_one", "_law_other"] (spDues T) := by
  have G__law_made_by : FnOk P w K mg base CX0 3 T.a__law_made_by T.d__law_made_by ["_law_one", "_law_other", "_law_is_in"] (spMade P w K mg base) := ok_made T
  have G__law_least_form : FnOk P w K mg base CX0 2 T.a__law_least_form T.d__law_least_form ["_law_raw_here"] (spLeast K) := ok_least T
  have G__law_cal_text : FnOk P w K mg base CX0 1 T.a__law_cal_text T.d__law_cal_text ["_law_form"] (spLText K) := ok_ltext T
  have hmT : (T.tp__law_dues, (fun _ _ => lamQ "_law_dues" : Nat → Nat → Str)) ∈ tabsT T := List.mem_cons_self
  have hu : ∀ z ∈ tabsT T, z.1 = T.tp__law_dues → z.2 = fun _ _ => lamQ "_law_dues" := fun z hz e => by
    simp only [tabsT, List.mem_cons, List.not_mem_nil, or_false] at hz
    rcases hz with rfl | rfl
    · rfl
    · exact absurd e.symm T.td__law_dues_law
  refine Fun.okC T.F__law_dues sc__law_dues (fun vs H Q E h => ?_) (fun cdv hcdv A outer s H vs Q E hr h => ?_)
  · obtain ⟨t, a0, a3, u, c0, c3, fs, rs, FS, RS, q, p, Q', P', rfl, _⟩ := h
    rfl
  · obtain ⟨t, a0, a3, u, c0, c3, fs, rs, FS, RS, q, p, Q', P', rfl, rh, RH, q1, q2, p1, p2, Q1, Q2, P1, P2, tb, k⟩ := h
    have nd := sc__law_dues.nd
    have hcode : cdv = .ref T.tc__law_dues := hcdv.symm.trans T.cd__law_dues
    refine ⟨_, (pss_cons (ps_set (i := 2) nd rfl (Or.inl rfl) (pe_lst (pa_cons (pe_call G__law_made_by (hr.mono (by first | decide | omega)) (by rfl) T.m__law_made_by T.k__law_made_by T.b__law_made_by .nil pass0 (pa_cons (pv 0) (pa_cons (pv 1) (pa_cons (pe_lam (nm := fun _ _ => lamQ "_law_dues") hTB hcode hmT rfl hu rfl rfl (by decide)) pa_nil)))) pa_nil)))
    (pss_cons (ps_expr (pe_bm PySem.F.plainAttrs_list PySem.F.slot_list_append PySem.F.type_list_append mt_append (pv 2) (pa_cons (pe_call G__law_made_by (hr.mono (by first | decide | omega)) (by rfl) T.m__law_made_by T.k__law_made_by T.b__law_made_by .nil pass0 (pa_cons (pv 0) (pa_cons (pv 1) (pa_cons (pe_lam (nm := fun _ _ => lamQ "_law_dues") hTB hcode hmT rfl hu rfl rfl (by decide)) pa_nil)))) pa_nil)))
    (pss_cons (ps_expr (pe_bm PySem.F.plainAttrs_list PySem.F.slot_list_append PySem.F.type_list_append mt_append (pv 2) (pa_cons (pe_call G__law_made_by (hr.mono (by first | decide | omega)) (by rfl) T.m__law_made_by T.k__law_made_by T.b__law_made_by .nil pass0 (pa_cons (pv 0) (pa_cons (pv 1) (pa_cons (pe_lam (nm := fun _ _ => lamQ "_law_dues") hTB hcode hmT rfl hu rfl rfl (by decide)) pa_nil)))) pa_nil)))
    (pss_cons (ps_expr (pe_bm PySem.F.plainAttrs_list PySem.F.slot_list_append PySem.F.type_list_append mt_append (pv 2) (pa_cons (pe_call G__law_made_by (hr.mono (by first | decide | omega)) (by rfl) T.m__law_made_by T.k__law_made_by T.b__law_made_by .nil pass0 (pa_cons (pv 0) (pa_cons (pv 1) (pa_cons (pe_lam (nm := fun _ _ => lamQ "_law_dues") hTB hcode hmT rfl hu rfl rfl (by decide)) pa_nil)))) pa_nil)))
    (pss_one (ps_ret (pe_lc (own := [("_law_raw_here", 3)]) (g := (gName 3)) (by rfl) nd (pi_list (pv 2)) (blkOk_by (N := ["_law_one", "_law_other", "_law_found", "_law_raw_here"]) (sc := defScope s__law_dues) (own := [("_law_raw_here", 3)]) (by decide +kernel)) (fun _ _ _ _ _ => by exact (pg_name (i := 3) nd rfl (Or.inl rfl))) (fun _ _ _ _ _ => by exact pts_nil) (fun _ _ _ _ _ => by exact (pe_call G__law_cal_text (hr.mono (by first | decide | omega)) (by rfl) T.m__law_cal_text T.k__law_cal_text T.b__law_cal_text .nil pass0 (pa_cons (pe_call G__law_least_form (hr.mono (by first | decide | omega)) (by rfl) T.m__law_least_form T.k__law_least_form T.b__law_least_form .nil pass0 (pa_cons (pv 3) pa_nil)) pa_nil)))))))))), ?_⟩
    refine asg_go (lst_go ?_)
    refine made_go (fun a b => a && b) rfl rfl rh RH q1 q2 p1 p2 Q1 Q2 P1 P2 tb (fun f c' => ok_lam (x := "_law_here") (y := "_law_there") (nscope_by (by decide +kernel)) (fun pm cdv ctv us hl => match us, hl with | [_, _], _ => rfl)
      (fun X a b hN vx vy => ⟨_, pe_and (pv 0 (by rw [hN]; rfl) vx) (pe_one (pv 1 (by rw [hN]; rfl) vy)), fun H Q hQ => ⟨_, rfl, a, rfl, ifB (fun e => by subst e; exact ⟨_, rfl, hQ⟩) (fun e => by subst e; exact hQ)⟩⟩) (.inl rfl) (.inl rfl)) (fun m1 H1 e1 n1 t1 k1 => ?_)
    refine ⟨szL (Nat.le_of_ble_eq_true rfl), fun L nL1 => ?_⟩
    have nL : H L = none := n1 L nL1
    have s1 := same_new (o := .lst [.ref m1]) nL1
    have hL : upd H1 L (.lst [.ref m1]) L = some (.lst [.ref m1]) := upd_same
    have rh := RawD.extN rh (e1.trans (ExtN.of_same s1))
    have RH := RawD.extN RH (e1.trans (ExtN.of_same s1))
    have tb := Rs.TabsN.same t1 s1
    have k1 := k1.same s1
    have eN := e1.trans (ExtN.of_same s1)
    have nn : ∀ b, upd H1 L (.lst [.ref m1]) b = Option.none → H b = Option.none := fun b hb => n1 b (upd_none hb)
    dsimp only [gName]
    generalize upd H1 L _ = G1 at rh RH tb k1 eN nn hL ⊢
    refine ⟨_, rfl, .inl ⟨rfl, _, SqL.of hL⟩, ?_⟩
    refine made_go (fun a b => a || b) rfl rfl rh RH q1 q2 p1 p2 Q1 Q2 P1 P2 tb (fun f c' => ok_lam (x := "_law_first") (y := "_law_second") (nscope_by (by decide +kernel)) (fun pm cdv ctv us hl => match us, hl with | [_, _], _ => rfl)
      (fun X a b hN vx vy => ⟨_, pe_or (pv 0 (by rw [hN]; rfl) vx) (pe_one (pv 1 (by rw [hN]; rfl) vy)), fun H Q hQ => ⟨_, rfl, a, rfl, ifB (fun e => by subst e; exact hQ) (fun e => by subst e; exact ⟨_, rfl, hQ⟩)⟩⟩) (.inl rfl) (.inl rfl)) (fun m2 H2 e2 n2 t2 k2 => ?_)
    have hL := e2 _ _ hL (fun _ e => by cases e)
    refine ⟨L, _, _, rfl, rfl, hL, szL2 (by simp), ?_⟩
    have rh := (RawD.extN rh e2).app (o := .lst ([.ref m1] ++ [.ref m2])) hL
    have RH := (RawD.extN RH e2).app (o := .lst ([.ref m1] ++ [.ref m2])) hL
    have tb := tabs_app (o := .lst ([.ref m1] ++ [.ref m2])) t2 hL
    have k1 := (k1.extN e2).app (o := .lst ([.ref m1] ++ [.ref m2])) hL
    have k2 := k2.app (o := .lst ([.ref m1] ++ [.ref m2])) hL
    have eN := extN_app (o := .lst ([.ref m1] ++ [.ref m2])) (eN.trans e2) nL
    have nn : ∀ b, upd H2 L (.lst ([.ref m1] ++ [.ref m2])) b = Option.none → H b = Option.none := fun b hb => nn b (n2 b (upd_none hb))
    have hL : upd H2 L (.lst ([.ref m1] ++ [.ref m2])) L = some (.lst ([.ref m1] ++ [.ref m2])) := upd_same
    dsimp only [List.cons_append, List.nil_append] at rh RH tb k1 k2 eN nn hL ⊢
    generalize upd H2 L _ = G2 at rh RH tb k1 k2 eN nn hL ⊢
    refine ⟨_, rfl, .inl ⟨rfl, _, SqL.of hL⟩, ?_⟩
    refine made_go (fun a b => a && !b) rfl rfl rh RH q1 q2 p1 p2 Q1 Q2 P1 P2 tb (fun f c' => ok_lam (x := "_law_here") (y := "_law_there") (nscope_by (by decide +kernel)) (fun pm cdv ctv us hl => match us, hl with | [_, _], _ => rfl)
      (fun X a b hN vx vy => ⟨_, pe_and (pv 0 (by rw [hN]; rfl) vx) (pe_one (pe_not (pv 1 (by rw [hN]; rfl) vy))), fun H Q hQ => ⟨_, rfl, a, rfl, ifB (fun e => by subst e; exact ⟨_, rfl, b, rfl, hQ⟩) (fun e => by subst e; exact hQ)⟩⟩) (.inl rfl) (.inl rfl)) (fun m3 H3 e3 n3 t3 k3 => ?_)
    have hL := e3 _ _ hL (fun _ e => by cases e)
    refine ⟨L, _, _, rfl, rfl, hL, szL2 (by simp), ?_⟩
    have rh := (RawD.extN rh e3).app (o := .lst ([.ref m1, .ref m2] ++ [.ref m3])) hL
    have RH := (RawD.extN RH e3).app (o := .lst ([.ref m1, .ref m2] ++ [.ref m3])) hL
    have tb := tabs_app (o := .lst ([.ref m1, .ref m2] ++ [.ref m3])) t3 hL
    have k1 := (k1.extN e3).app (o := .lst ([.ref m1, .ref m2] ++ [.ref m3])) hL
    have k2 := (k2.extN e3).app (o := .lst ([.ref m1, .ref m2] ++ [.ref m3])) hL
    have k3 := k3.app (o := .lst ([.ref m1, .ref m2] ++ [.ref m3])) hL
    have eN := extN_app (o := .lst ([.ref m1, .ref m2] ++ [.ref m3])) (eN.trans e3) nL
    have nn : ∀ b, upd H3 L (.lst ([.ref m1, .ref m2] ++ [.ref m3])) b = Option.none → H b = Option.none := fun b hb => nn b (n3 b (upd_none hb))
    have hL : upd H3 L (.lst ([.ref m1, .ref m2] ++ [.ref m3])) L = some (.lst ([.ref m1, .ref m2] ++ [.ref m3])) := upd_same
    dsimp only [List.cons_append, List.nil_append] at rh RH tb k1 k2 k3 eN nn hL ⊢
    generalize upd H3 L _ = G3 at rh RH tb k1 k2 k3 eN nn hL ⊢
    refine ⟨_, rfl, .inl ⟨rfl, _, SqL.of hL⟩, ?_⟩
    refine made_go (fun a b => xor a b) rfl rfl rh RH q1 q2 p1 p2 Q1 Q2 P1 P2 tb (fun f c' => ok_lam (x := "_law_first") (y := "_law_second") (nscope_by (by decide +kernel)) (fun pm cdv ctv us hl => match us, hl with | [_, _], _ => rfl)
      (fun X a b hN vx vy => ⟨_, pe_cmpR op_ne (pv 0 (by rw [hN]; rfl) vx) (pv 1 (by rw [hN]; rfl) vy) (nomark _), fun H Q hQ => ⟨_, rfl, _, rfl, rfl, by cases a <;> cases b <;> exact hQ⟩⟩) (.inl rfl) (.inl rfl)) (fun m4 H4 e4 n4 t4 k4 => ?_)
    have hL := e4 _ _ hL (fun _ e => by cases e)
    refine ⟨L, _, _, rfl, rfl, hL, szL2 (by simp), ?_⟩
    have rh := (RawD.extN rh e4).app (o := .lst ([.ref m1, .ref m2, .ref m3] ++ [.ref m4])) hL
    have RH := (RawD.extN RH e4).app (o := .lst ([.ref m1, .ref m2, .ref m3] ++ [.ref m4])) hL
    have tb := tabs_app (o := .lst ([.ref m1, .ref m2, .ref m3] ++ [.ref m4])) t4 hL
    have k1 := (k1.extN e4).app (o := .lst ([.ref m1, .ref m2, .ref m3] ++ [.ref m4])) hL
    have k2 := (k2.extN e4).app (o := .lst ([.ref m1, .ref m2, .ref m3] ++ [.ref m4])) hL
    have k3 := (k3.extN e4).app (o := .lst ([.ref m1, .ref m2, .ref m3] ++ [.ref m4])) hL
    have k4 := k4.app (o := .lst ([.ref m1, .ref m2, .ref m3] ++ [.ref m4])) hL
    have eN := extN_app (o := .lst ([.ref m1, .ref m2, .ref m3] ++ [.ref m4])) (eN.trans e4) nL
    have nn : ∀ b, upd H4 L (.lst ([.ref m1, .ref m2, .ref m3] ++ [.ref m4])) b = Option.none → H b = Option.none := fun b hb => nn b (n4 b (upd_none hb))
    have hL : upd H4 L (.lst ([.ref m1, .ref m2, .ref m3] ++ [.ref m4])) L = some (.lst ([.ref m1, .ref m2, .ref m3] ++ [.ref m4])) := upd_same
    dsimp only [List.cons_append, List.nil_append] at rh RH tb k1 k2 k3 k4 eN nn hL ⊢
    generalize upd H4 L _ = G4 at rh RH tb k1 k2 k3 k4 eN nn hL ⊢
    let c : Nat → Int → Bool := fun j => match j with
      | 0 => fun n => memC fs q p rs n && memC FS Q' P' RS n
      | 1 => fun n => memC fs q p rs n || memC FS Q' P' RS n
      | 2 => fun n => memC fs q p rs n && !memC FS Q' P' RS n
      | _ => fun n => xor (memC fs q p rs n) (memC FS Q' P' RS n)
    refine ret_go (lmapE (sl := 3) (xs := [.ref m1, .ref m2, .ref m3, .ref m4]) (fun j v => ∃ y, v = .str y ∧ TextOf (c j) y) (fun R hR => ⟨_, rfl, hR⟩) hL (by simp) (fun j x hj Hc R sc hR => ?_) fun D H6 ys nD s6 hD lys hys => ?_)
    · obtain ⟨m, rfl, hm⟩ : ∃ m, x = .ref m ∧ Made Hc m (c j) := by
        match j, hj with
        | 0, hj => exact ⟨m1, by simpa using hj.symm, k1.same sc⟩
        | 1, hj => exact ⟨m2, by simpa using hj.symm, k2.same sc⟩
        | 2, hj => exact ⟨m3, by simpa using hj.symm, k3.same sc⟩
        | 3, hj => exact ⟨m4, by simpa using hj.symm, k4.same sc⟩
      exact text_go rfl hm fun y Hd sd ty => hR _ _ sd ⟨y, rfl, ty⟩
    · obtain ⟨v1, v2, v3, v4, rfl⟩ : ∃ v1 v2 v3 v4, ys = [v1, v2, v3, v4] := by
        match ys, lys with
        | [v1, v2, v3, v4], _ => exact ⟨v1, v2, v3, v4, rfl⟩
      obtain ⟨y1, rfl, u1⟩ := hys 0 v1 rfl
      obtain ⟨y2, rfl, u2⟩ := hys 1 v2 rfl
      obtain ⟨y3, rfl, u3⟩ := hys 2 v3 rfl
      obtain ⟨y4, rfl, u4⟩ := hys 3 v4 rfl
      exact k D y1 y2 y3 y4 H6 (eN.trans (ExtN.of_same s6)) (fun b hb => nn b (s6.free hb)) (Rs.TabsN.same tb s6) hD u1 u2 u3 u4

end
end K32
namespace K32
open PySem PySem.Spec PyProof.Rows L2 Rs LamX NdefX
local macro_rules | `(tactic| walk_at "om") => `(tactic| first | omega | (dsimp only; omega))
local macro_rules | `(tactic| walk_at "side") => `(tactic| first | omega | (dsimp only; omega) | decide | (unfold CMul; omega) | (unfold CDiv; omega) | (unfold CPow; omega) | exact wide_div (b := 64) (by omega) (by omega) (by decide) (by decide))
local macro_rules | `(tactic| walk_at "hp") => `(tactic| first | assumption | exact upd_same)
local macro_rules | `(tactic| walk_at "sq") => `(tactic| first | assumption | exact SqL.of (by assumption) | exact SqL.of upd_same)
local macro_rules | `(tactic| walk_at "st") => `(tactic| first
  | refine ⟨_, rfl, ?_⟩
  | (refine ⟨_, _, rfl, rfl, And.intro ?side ?_⟩; (case side => walk_at "side"))
  | refine ⟨_, _, rfl, rfl, ?_⟩
  | (refine' ⟨_, _, _, _, rfl, rfl, SqL.of ?hp, ?atx, ?_⟩; (case hp => walk_at "hp"); (case atx => exact rfl))
  | (refine' ⟨_, _, _, _, rfl, rfl, ?hp, ?atx, ?_⟩; (case hp => walk_at "hp"); (case atx => exact rfl))
  | (refine' ⟨_, _, rfl, Or.inl ?sq, ?_⟩; (case sq => walk_at "sq"))
  | refine Or.inl ⟨_, rfl, ?_⟩
  | refine Or.inr ⟨_, rfl, ?_⟩)
local macro_rules | `(tactic| walk_at "evd") => `(tactic| first
  | exact evd_int
  | exact evd_str
  | exact evd_non
  | exact evd_bl
  | exact evd_nil
  | (refine evd_cons ?_ (fun _ => ?_) <;> walk_at "evd")
  | (refine evd_tup ?_ (Nat.le_of_ble_eq_true rfl); walk_at "evd"))

section
variable {P : Program} {w : World} {K : PySem.W.Frag} {mg : Str → Option Value} {base : Heap}
theorem ok_any {ι : Type} {k : Nat} {f : Addr} {fd : FuncData} {ps : List Str} {sp : ι → Sp} (i0 : ι) (h : ∀ i, FnOk P w K mg base CX0 k f fd ps (sp i)) : FnOk P w K mg base CX0 k f fd ps (fun vs H Q E => ∃ i, sp i vs H Q E) :=
  ⟨fun vs H Q E z => by obtain ⟨i, z⟩ := z; exact (h i).len vs H Q E z, fun A outer s H args us vs Q E a b c d z => by obtain ⟨i, z⟩ := z; exact (h i).run A outer s H args us vs Q E a b c d z⟩
def spBinA (K : PySem.W.Frag) (CC : Addr) (c : Bool → Bool → Bool) : Sp := fun vs H Q E => ∃ z : Int × Int, spBin K CC z.1 z.2 c vs H Q E
def spInvA (K : PySem.W.Frag) (CC : Addr) : Sp := fun vs H Q E => ∃ z : Int × Int, spInvS K CC z.1 z.2 vs H Q E
def spStrA (K : PySem.W.Frag) (CC : Addr) : Sp := fun vs H Q E => ∃ z : Int × Int, spStrS K CC z.1 z.2 vs H Q E
def spEqA (K : PySem.W.Frag) (CC : Addr) : Sp := fun vs H Q E => ∃ z : Int × Int, spEq K CC z.1 z.2 vs H Q E
/-! what is kept while lambdas fill the tables -/
theorem tabs_same {TT : List NTab} {H H' : Hp} (t : TabsN TT H) (s : Same H H') : TabsN TT H' := Rs.TabsN.same t s
structure Kp (H H' : Hp) : Prop where
  e : ExtN H H'
  n : ∀ b, H' b = Option.none → H b = Option.none
theorem Kp.refl (H : Hp) : Kp H H := ⟨ExtN.refl H, fun _ h => h⟩
theorem Kp.trans {H H1 H2 : Hp} (a : Kp H H1) (b : Kp H1 H2) : Kp H H2 := ⟨a.e.trans b.e, fun c h => a.n c (b.n c h)⟩
theorem Kp.of {H H' : Hp} (s : Same H H') : Kp H H' := ⟨ExtN.of_same s, fun b h => s.free h⟩
theorem Kp.sqL {H H' : Hp} {a : Addr} {xs : List V} (k : Kp H H') (h : SqL K H a xs) : SqL K H' a xs := by
  rcases h with (h | ⟨o, h⟩) | h
  · exact .inl (.inl (k.e _ _ h fun _ e => by cases e))
  · exact .inl (.inr ⟨o, k.e _ _ h fun _ e => by cases e⟩)
  · exact .inr h
/-- the same, but for the list at b -/
structure KpB (b : Addr) (H H' : Hp) : Prop where
  e : ButN b H H'
  n : ∀ c, H' c = Option.none → H c = Option.none
theorem KpB.refl (b : Addr) (H : Hp) : KpB b H H := ⟨ButN.refl b H, fun _ h => h⟩
theorem KpB.trans {b : Addr} {H H1 H2 : Hp} (x : KpB b H H1) (y : KpB b H1 H2) : KpB b H H2 := ⟨x.e.trans y.e, fun c h => x.n c (y.n c h)⟩
theorem KpB.kp {b : Addr} {H H' : Hp} (k : Kp H H') : KpB b H H' := ⟨ButN.ofN k.e, k.n⟩
theorem KpB.of {b : Addr} {H H' : Hp} (s : Same H H') : KpB b H H' := KpB.kp (Kp.of s)
theorem KpB.but {b : Addr} {H H' : Hp} (k : But b H H') (B : Box H' b) : KpB b H H' := ⟨ButN.of k, fun c h => by
  obtain ⟨x, y, z, hb, _⟩ := B
  cases e : H c with
  | none => rfl
  | some o =>
    have ne : c ≠ b := fun q => by
      rw [q, hb] at h
      cases h
    have := k c o ne e
    rw [h] at this
    cases this⟩
theorem KpB.app {b L : Addr} {H H' : Hp} {o : HO} (k : KpB b H H') (n : H L = Option.none) : KpB b H (upd H' L o) := ⟨fun a u ne t h => by
  rw [upd_ne (ne_of_none h n)]
  exact k.e a u ne t h, fun c h => k.n c (upd_none h)⟩
theorem KpB.out {b : Addr} {H H1 H2 : Hp} (a : Kp H H1) (k : KpB b H1 H2) (n : H b = Option.none) : Kp H H2 := ⟨fun c o h t => k.e c o (ne_of_none h n) t (a.e c o h t), fun c h => a.n c (k.n c h)⟩
theorem Box.app {b L x : Addr} {xs : List V} {H : Hp} {o : HO} (B : Box H b) (hL : H L = some (.lst (.ref x :: xs))) : Box (upd H L o) b := by
  obtain ⟨i, j, k, h, r⟩ := B
  refine ⟨i, j, k, ?_, r⟩
  rw [upd_ne (fun e => by rw [e, hL] at h; cases h)]
  exact h
/-! texts -/
theorem TextOf.ext {f g : Int → Bool} {y : Str} (h : TextOf f y) (e : ∀ n, 1 ≤ n → f n = g n) : TextOf g y := by
  obtain ⟨fs, rs, q, p, e0, p0, lp, ls, tl, m, r⟩ := h
  exact ⟨fs, rs, q, p, e0, p0, lp, ls, tl, fun n n1 => (m n n1).trans (e n n1), r⟩
theorem text_eq {f : Int → Bool} {y z : Str} (h1 : TextOf f y) (h2 : TextOf f z) : y = z := (text_iff h1 h2).mpr fun _ _ => rfl
/-! every sign of a text is one -/
theorem ok_of (t : String) : PyData.strOk (Str.ofString t) = true := by
  rw [Str.ofString_eq_toList]
  unfold PyData.strOk
  rw [Array.all_eq_true']
  intro x hx
  rw [List.mem_toArray, List.mem_map] at hx
  obtain ⟨c, _, rfl⟩ := hx
  refine decide_eq_true ?_
  have := c.valid
  rcases this with h | h
  · show c.val.toNat < 1114112
    have : c.val.toNat < 55296 := h
    omega
  · exact h.2
theorem ok_app {a b : Str} (ha : PyData.strOk a = true) (hb : PyData.strOk b = true) : PyData.strOk (a ++ b) = true := by
  unfold PyData.strOk at ha hb ⊢
  rw [Str.cps_append, Array.all_append, ha, hb]
  rfl
theorem ok_joinS {sep : Str} (hs : PyData.strOk sep = true) : ∀ {xs : List Str}, (∀ x ∈ xs, PyData.strOk x = true) → PyData.strOk (Str.join sep xs) = true
  | [], _ => by
    show (#[] : Array Nat).all (· < 0x110000) = true
    simp
  | [x], h => h x List.mem_cons_self
  | x :: y :: r, h => ok_app (ok_app (h x List.mem_cons_self) hs) (ok_joinS (xs := y :: r) hs fun z hz => h z (List.mem_cons_of_mem _ hz))
theorem ok_join {sep : Str} (hs : PyData.strOk sep = true) {xs : List Str} (h : ∀ x ∈ xs, PyData.strOk x = true) : PyData.strOk (Txt.join sep xs) = true := by
  have e : Txt.join sep xs = Str.join sep xs := StrLaws.glued_eq_join sep xs
  rw [e]
  exact ok_joinS hs h
theorem ok_spaced' {ns : List Int} : PyData.strOk (spaced ns) = true := ok_join (ok_of _) fun x hx => by
  obtain ⟨n, _, rfl⟩ := List.mem_map.mp hx
  exact ok_of _
theorem ok_front {ns : List Int} : PyData.strOk (front ns) = true := by
  unfold front
  split
  · exact ok_of _
  · exact ok_spaced'
theorem TextOf.ok {f : Int → Bool} {y : Str} (h : TextOf f y) : PyData.strOk y = true := by
  obtain ⟨fs, rs, q, p, e0, p0, _, _, _, _, rfl⟩ := h
  unfold calText
  split
  · exact ok_front
  · exact ok_app ok_front (ok_app (ok_of _) (ok_app (ok_of _) (ok_app (ok_of _) (ok_app (ok_of _) (ok_app (ok_of _) ok_spaced')))))
def four (f g : Int → Bool) : Nat → Int → Bool
  | 0 => fun n => f n && g n
  | 1 => fun n => f n || g n
  | 2 => fun n => f n && !g n
  | _ => fun n => xor (f n) (g n)
theorem four_same {f g : Int → Bool} {ys : List V} {y1 y2 y3 y4 : Str} (l : ys.length = 4) (h : ∀ j v, ys[j]? = some v → ∃ y, v = .str y ∧ TextOf (four f g j) y)
    (h1 : TextOf (fun n => f n && g n) y1) (h2 : TextOf (fun n => f n || g n) y2) (h3 : TextOf (fun n => f n && !g n) y3) (h4 : TextOf (fun n => xor (f n) (g n)) y4) : ys = [.str y1, .str y2, .str y3, .str y4] := by
  match ys, l with
  | [v1, v2, v3, v4], _ =>
    obtain ⟨z1, rfl, u1⟩ := h 0 v1 rfl
    obtain ⟨z2, rfl, u2⟩ := h 1 v2 rfl
    obtain ⟨z3, rfl, u3⟩ := h 2 v3 rfl
    obtain ⟨z4, rfl, u4⟩ := h 3 v4 rfl
    rw [text_eq u1 h1, text_eq u2 h2, text_eq u3 h3, text_eq u4 h4]
theorem dp_s4 {H : Hp} {y1 y2 y3 y4 : Str} : DpAll K H [.str y1, .str y2, .str y3, .str y4] [.str y1, .str y2, .str y3, .str y4] := .cons (.str _) (.cons (.str _) (.cons (.str _) (.cons (.str _) .nil)))
theorem ok_s4 {y1 y2 y3 y4 : Str} {f1 f2 f3 f4 : Int → Bool} (h1 : TextOf f1 y1) (h2 : TextOf f2 y2) (h3 : TextOf f3 y3) (h4 : TextOf f4 y4) : okD 1 (.list [.str y1, .str y2, .str y3, .str y4]) := okD.list fun d hd => by
  simp only [List.mem_cons, List.not_mem_nil, or_false] at hd
  rcases hd with rfl | rfl | rfl | rfl
  · exact ⟨h1.ok, Nat.zero_le _⟩
  · exact ⟨h2.ok, Nat.zero_le _⟩
  · exact ⟨h3.ok, Nat.zero_le _⟩
  · exact ⟨h4.ok, Nat.zero_le _⟩
/-! evaluation -/
def tKn (v : V) : TE := fun _ H Q => Q v H
theorem lct_go {K' : PySem.W.Frag} {te el : TE} {tt : TT} {g : TG} {own : List Nat} {σ : L2.St} {H : Hp} {Q : VK} (h : te σ H fun v H1 => tLc (iTup K' (tKn v)) g tt el own σ H1 Q) : tLc (iTup K' te) g tt el own σ H Q := h
theorem lmapTE {K' : PySem.W.Frag} {L : Addr} {xs : List V} {el : TE} {sl : Nat} {σ : L2.St} {H : Hp} {Q : VK} (Pr : Nat → V → Prop) (hL : H L = some (.tup xs)) (ln : xs.length ≤ 3000)
    (hel : ∀ (j : Nat) (x : V), xs[j]? = some x → ∀ (Hc : Hp) (R : VK), Same H Hc → (∀ v Hd, Same Hc Hd → Pr j v → R v Hd) → el ((wipe σ [sl]).set sl (some x)) Hc R)
    (k : ∀ D H' ys, H D = none → Same H H' → H' D = some (.lst ys) → ys.length = xs.length → (∀ j v, ys[j]? = some v → Pr j v) → Q (.ref D) H') : tLc (iTup K' (tKn (.ref L))) (gName sl) tYes el [sl] σ H Q := by
  refine ⟨L, rfl, ⟨_, SqT.of hL⟩, fun D hD => lc_it walk_tup (fun i Hc => ∃ ys, Hc D = some (.lst ys) ∧ ys.length = i ∧ (∀ j v, ys[j]? = some v → Pr j v) ∧ Same H Hc) ⟨[], upd_same, rfl, fun j v e => by simp at e, same_new hD⟩ (fun i Hc _ hR => by obtain ⟨_, _, _, _, s⟩ := hR; exact (Fz.of_same s).sqT (SqT.of hL)) (fun j x Hc H' hj hR hy => ?_) (fun Hc hR => by obtain ⟨ys, a, b, c, s⟩ := hR; exact k D Hc ys hD s a b c)⟩
  obtain ⟨rfl, hx⟩ := hy
  obtain ⟨ys, hDc, ly, hys, sc⟩ := hR
  refine ⟨by simp [wipe, List.set_set], ?_⟩
  dsimp only [tYes]
  rw [if_pos rfl]
  have lt : j < xs.length := (List.getElem?_eq_some_iff.mp hx).1
  refine hel j x hx _ _ sc fun v Hd sd pv => ?_
  refine ⟨_, sd _ _ hDc, szL2 (by omega), ys ++ [v], upd_same, by rw [List.length_append, ly]; rfl, fun j' v' e => ?_, same_lst (sc.trans sd) hD⟩
  by_cases c : j' < ys.length
  · rw [List.getElem?_append_left c] at e
    exact hys j' v' e
  · rw [List.getElem?_append_right (by omega)] at e
    have z : j' - ys.length = 0 := by
      by_cases d : j' - ys.length = 0
      · exact d
      · rw [List.getElem?_eq_none (by simp; omega)] at e
        cases e
    rw [z] at e
    simp at e
    rw [← e, show j' = j by omega]
    exact pv
theorem if_any {c : TT} {ta tb : TE} {σ : L2.St} {H : Hp} {Q : VK} (C : V → Hp → Prop) (k : ∀ v H', C v H' → Q v H') (h : ∀ R : VK, (∀ v H', C v H' → R v H') → tIf c ta tb σ H R) : tIf c ta tb σ H Q := h _ k
/-- an o p of calendars -/
theorem bin_go {CC : Addr} {M : Int} {c : Bool → Bool → Bool} {x y : Addr} {f g : Int → Bool} {H : Hp} {Q : VK} (cx : CalS CC 30 M H x f) (cy : CalS CC 30 M H y g) (M1 : 1 ≤ M) (M2 : M ≤ 144) (k : ∀ z H', Same H H' → H z = none → CalS CC 30 M H' z (fun n => c (f n) (g n)) → Q (.ref z) H') :
    rBinM CC (spBinA K CC c) E0 (.ref x) (.ref y) H Q := by
  obtain ⟨dx, gs, hx⟩ := cx.ins
  obtain ⟨dy, hs, hy⟩ := cy.ins
  exact ⟨x, dx, gs, y, dy, hs, rfl, rfl, hx, hy, (30, M), x, y, f, g, rfl, cx, cy, M1, by show 30 + M ≤ 1000; omega, k⟩
theorem CalS.app {CC L : Addr} {B M : Int} {H : Hp} {x : Addr} {xs : List V} {o : HO} {f : Int → Bool} (h : CalS CC B M H x f) (hL : H L = some (.lst xs)) : CalS CC B M (upd H L o) x f := h.fz (Fz.lst hL)
theorem str_go {CC : Addr} {M : Int} {x : Addr} {f : Int → Bool} {i : Nat} {σ : L2.St} {H : Hp} {Q : VK} (h0 : σ[i]? = some (some (.ref x))) (cx : CalS CC 30 M H x f) (k : ∀ y H', Same H H' → TextOf f y → Q (.str y) H') : tCB (rStrO CC (spStrA K CC) E0) (tCons (tVar i) tNil) σ H Q := by
  obtain ⟨dx, gs, hx⟩ := cx.ins
  exact ⟨_, h0, x, dx, gs, rfl, hx, (30, M), x, f, rfl, cx, fun y H' s ty => ⟨_, rfl, k y H' s ty⟩⟩
/-- ~x of a calendar -/
theorem inv_go {CC : Addr} {M : Int} {x : Addr} {f : Int → Bool} {H : Hp} {Q : VK} (cx : CalS CC 30 M H x f) (M1 : 1 ≤ M) (M2 : M ≤ 144) (k : ∀ z H', Same H H' → H z = none → CalS CC 30 M H' z (fun n => !f n) → Q (.ref z) H') : rUnM CC (spInvA K CC) E0 (.ref x) H Q := by
  obtain ⟨dx, gs, hx⟩ := cx.ins
  exact ⟨x, dx, gs, rfl, hx, (30, M), x, f, rfl, cx, M1, by show 30 + M ≤ 1000; omega, k⟩
/-- x != y of calendars of one set -/
theorem ne_go (T : Txt K mg) {K' : PySem.W.Frag} (eK : K' = K) {M : Int} {x y : Addr} {f g : Int → Bool} {H : Hp} {Q : VK} (cx : CalS T.c_Calendar 30 M H x f) (cy : CalS T.c_Calendar 30 M H y g) (e : ∀ n, 1 ≤ n → f n = g n) (k : Q (.bl false) H) : rNeO K' T.c_Calendar (spEqA K T.c_Calendar) E0 (.ref x) (.ref y) H Q := by
  subst eK
  obtain ⟨dx, gs, hx⟩ := cx.ins
  obtain ⟨dy, hs, hy⟩ := cy.ins
  refine ⟨x, dx, gs, _, rfl, hx, T.I_Calendar.ty T.C_Calendar hy, notFirst_self, (30, M), x, _, f, rfl, cx, .inl ⟨y, g, rfl, cy, fun b e' => ⟨b, rfl, ?_⟩⟩⟩
  have : b = true := e'.mpr e
  subst this
  exact k
/-- str of a calendar at hand -/
theorem strv_go {CC : Addr} {M : Int} {x : Addr} {f : Int → Bool} {H : Hp} {Q : VK} (cx : CalS CC 30 M H x f) (k : ∀ y H', Same H H' → TextOf f y → Q (.str y) H') : rStrO CC (spStrA K CC) E0 [.ref x] H Q := by
  obtain ⟨dx, gs, hx⟩ := cx.ins
  exact ⟨x, dx, gs, rfl, hx, (30, M), x, f, rfl, cx, fun y H' s ty => ⟨_, rfl, k y H' s ty⟩⟩
theorem new_go (T : Txt K mg) {σ : L2.St} {H : Hp} {R : VK} (k : ∀ z H', Same H H' → CalS T.c_Calendar 30 1 H' z (fun _ => false) → R (.ref z) H') : tMake T.c_Calendar (spCalG K T.c_Calendar) [.ref T.e_Calendar___init___0, .int 1, .int 1, .ref T.e_Calendar___init___3] E0 tNil σ H R := by
  refine fun x dx nx ndx ne => ?_
  have tl0 : TellI [] [] 1 1 := ⟨by decide, by decide, by decide, by decide, by decide, by decide, (fun n h => nomatch h), fun n h => nomatch h⟩
  have sm : Same H (upd (upd H dx (.own x)) x (.ins T.c_Calendar dx [])) := fun a o e => by
    rw [upd_ne (ne_of_none e nx), upd_ne (ne_of_none e ndx)]
    exact e
  refine ⟨x, dx, _, _, [], [], 1, 1, rfl, upd_same, .inr (T.E_Calendar___init___0 _), .inr (T.E_Calendar___init___3 _), tl0, fun F gs kF hF cf => ⟨rfl, k x F (fun a o e => kF a o (ne_of_none e nx) (sm a o e)) ⟨[], [], 1, 1, ⟨dx, gs, hF, cf⟩, tl0, by decide, Int.one_dvd _, fun n n1 => ?_⟩⟩⟩
  unfold memC
  rw [decide_eq_true n1]
  split <;> rfl
theorem all_mem {n : Int} (n1 : 1 ≤ n) : memC [] 1 1 [0] n = true := by
  unfold memC
  rw [decide_eq_true n1, Bool.true_and, if_neg (by omega), Int.emod_one]
  rfl
theorem all_text : TextOf (fun n => !(fun _ => false) n) (Str.ofString "- from 1 of 1: 0") := by
  refine ⟨[], [0], 1, 1, 1, 1, ⟨by decide, by decide, .inl rfl, fun s a b => by omega⟩, ⟨by decide, by decide, fun n a b => by omega, .inl rfl⟩, ⟨by decide, by decide, by decide, by decide, by decide, by decide, by decide, by decide⟩, fun n n1 => all_mem n1, by decide +kernel⟩

end
end K32
namespace K32
open PySem PySem.Spec PyProof.Rows L2 Rs LamX NdefX
local macro_rules | `(tactic| walk_at "om") => `(tactic| first | omega | (dsimp only; omega))
local macro_rules | `(tactic| walk_at "side") => `(tactic| first | omega | (dsimp only; omega) | decide | (unfold CMul; omega) | (unfold CDiv; omega) | (unfold CPow; omega) | exact wide_div (b := 64) (by omega) (by omega) (by decide) (by decide))
local macro_rules | `(tactic| walk_at "hp") => `(tactic| first | assumption | exact upd_same)
local macro_rules | `(tactic| walk_at "sq") => `(tactic| first | assumption | exact SqL.of (by assumption) | exact SqL.of upd_same)
local macro_rules | `(tactic| walk_at "st") => `(tactic| first
  | refine ⟨_, rfl, ?_⟩
  | (refine ⟨_, _, rfl, rfl, And.intro ?side ?_⟩; (case side => walk_at "side"))
  | refine ⟨_, _, rfl, rfl, ?_⟩
  | (refine' ⟨_, _, _, _, rfl, rfl, SqL.of ?hp, ?atx, ?_⟩; (case hp => walk_at "hp"); (case atx => exact rfl))
  | (refine' ⟨_, _, _, _, rfl, rfl, ?hp, ?atx, ?_⟩; (case hp => walk_at "hp"); (case atx => exact rfl))
  | (refine' ⟨_, _, rfl, Or.inl ?sq, ?_⟩; (case sq => walk_at "sq"))
  | refine Or.inl ⟨_, rfl, ?_⟩
  | refine Or.inr ⟨_, rfl, ?_⟩)
local macro_rules | `(tactic| walk_at "evd") => `(tactic| first
  | exact evd_int
  | exact evd_str
  | exact evd_non
  | exact evd_bl
  | exact evd_nil
  | (refine evd_cons ?_ (fun _ => ?_) <;> walk_at "evd")
  | (refine evd_tup ?_ (Nat.le_of_ble_eq_true rfl); walk_at "evd"))

section
variable {P : Program} {w : World} {K : PySem.W.Frag} {mg : Str → Option Value} {base : Heap}
def spLaw (K : PySem.W.Frag) (TT : List NTab) : Sp := fun vs H Q _ => ∃ (a : Addr) (ns : List Int), vs = [.ref a] ∧ SqL K H a (ns.map V.int) ∧ ns.length ≤ 63 ∧ TabsN TT H ∧ ∀ H', Q (.bl true) H'
theorem if_go {c : TT} {t u : TS} {D : Ends} {σ : L2.St} {H : Hp} (h : c σ H fun b H1 => if b = true then t D σ H1 else u D σ H1) : tIfS c t u D σ H := h
theorem ok_law (T : Txt K mg) (hTBd : TabB base mg T.tc__law_dues T.tp__law_dues) (hTB : TabB base mg T.tc_law T.tp_law) : FnOk P w K mg base CX0 11 T.a_law T.d_law ["_law_script"] (spLaw K (tabsT T)) := by
  have G__law_take : FnOk P w K mg base CX0 1 T.a__law_take T.d__law_take ["_law_box_here", "_law_many"] spTake := ok_take T
  have G__law_box : FnOk P w K mg base CX0 1 T.a__law_box T.d__law_box ["_law_script", "_law_k"] (spBox K) := ok_box T
  have G__law_raw : FnOk P w K mg base CX0 3 T.a__law_raw T.d__law_raw ["_law_box_here", "_law_far", "_law_wide"] spRaw := ok_raw T
  have G__law_near : FnOk P w K mg base CX0 2 T.a__law_near T.d__law_near ["_law_box_here", "_law_raw_here"] spNear := ok_near T
  have G__law_cal_of : FnOk P w K mg base CX0 6 T.a__law_cal_of T.d__law_cal_of ["_law_raw_here"] (spCalOf K T.c_Calendar) := ok_cal_of T
  have G__law_dues : FnOk P w K mg base CX0 4 T.a__law_dues T.d__law_dues ["_law_one", "_law_other"] (spDues T) := ok_dues T hTBd
  have G__law_made_by : FnOk P w K mg base CX0 3 T.a__law_made_by T.d__law_made_by ["_law_one", "_law_other", "_law_is_in"] (spMade P w K mg base) := ok_made T
  have G__law_least_form : FnOk P w K mg base CX0 2 T.a__law_least_form T.d__law_least_form ["_law_raw_here"] (spLeast K) := ok_least T
  have G__law_cal_text : FnOk P w K mg base CX0 1 T.a__law_cal_text T.d__law_cal_text ["_law_form"] (spLText K) := ok_ltext T
  have GI_Calendar : FnOk P w K mg base CX0 4 T.a_Calendar___init__ T.d_Calendar___init__ ["self", "few", "start", "period", "rests"] (spCalG K T.c_Calendar) := ok_calG T
  have R_inv : FnR P w K mg base CX0 7 T.a_Calendar___invert__ (spInvA K T.c_Calendar) := fnR (ok_any (0, 0) fun z => ok_invS z.1 z.2 T) T.b_Calendar___invert__
  have R_eq : FnR P w K mg base CX0 1 T.a_Calendar___eq__ (spEqA K T.c_Calendar) := fnR (ok_any (0, 0) fun z => ok_eq z.1 z.2 T) T.b_Calendar___eq__
  have R_str : FnR P w K mg base CX0 3 T.a_Calendar___str__ (spStrA K T.c_Calendar) := fnR (ok_any (0, 0) fun z => ok_str z.1 z.2 T) T.b_Calendar___str__
  have R_and : FnR P w K mg base CX0 8 T.a_Calendar___and__ (spBinA K T.c_Calendar (fun a b => a && b)) := fnR (ok_any (0, 0) fun z => ok_and z.1 z.2 T) T.b_Calendar___and__
  have R_or : FnR P w K mg base CX0 8 T.a_Calendar___or__ (spBinA K T.c_Calendar (fun a b => a || b)) := fnR (ok_any (0, 0) fun z => ok_or z.1 z.2 T) T.b_Calendar___or__
  have R_sub : FnR P w K mg base CX0 8 T.a_Calendar___sub__ (spBinA K T.c_Calendar (fun a b => a && !b)) := fnR (ok_any (0, 0) fun z => ok_sub z.1 z.2 T) T.b_Calendar___sub__
  have R_xor : FnR P w K mg base CX0 8 T.a_Calendar___xor__ (spBinA K T.c_Calendar (fun a b => xor a b)) := fnR (ok_any (0, 0) fun z => ok_xor z.1 z.2 T) T.b_Calendar___xor__
  obtain ⟨ds0, V0_Calendar, B0_Calendar⟩ := T.D_Calendar___init__
  have hmT : (T.tp_law, (fun _ _ => lamQ "law" : Nat → Nat → Str)) ∈ tabsT T := List.mem_cons_of_mem _ List.mem_cons_self
  have hu : ∀ z ∈ tabsT T, z.1 = T.tp_law → z.2 = fun _ _ => lamQ "law" := fun z hz e => by
    simp only [tabsT, List.mem_cons, List.not_mem_nil, or_false] at hz
    rcases hz with rfl | rfl
    · exact absurd e T.td__law_dues_law
    · rfl
  refine Fun.okC T.F_law sc_law (fun vs H Q E h => ?_) (fun cdv hcdv A outer s H vs Q E hr h => ?_)
  · obtain ⟨a, ns, rfl, _⟩ := h
    rfl
  · obtain ⟨a, ns, rfl, hS, hlen, tb, k⟩ := h
    have nd := sc_law.nd
    have hcode : cdv = .ref T.tc_law := hcdv.symm.trans T.cd_law
    refine ⟨_, (pss_cons (ps_for PassesOwn.never rfl (pi_range1 (by rfl) T.z_range (pa_cons (pe_callB (call_max2 rfl) (by rfl) T.z_max (by decide +kernel) (pa_cons pe_int (pa_cons (pe_callB (call_min2 rfl) (by rfl) T.z_min (by decide +kernel) (pa_cons pe_int (pa_cons (pe_callB call_len_seq (by rfl) T.z_len (by decide +kernel) (pa_cons (pv 0) pa_nil)) pa_nil))) pa_nil))) pa_nil)) (pg_name (i := 1) nd rfl (Or.inl rfl))
    (pss_cons (ps_set (i := 2) nd rfl (Or.inl rfl) (pe_call G__law_box (hr.mono (by first | decide | omega)) (by rfl) T.m__law_box T.k__law_box T.b__law_box .nil pass0 (pa_cons (pv 0) (pa_cons (pv 1) pa_nil))))
    (pss_one (ps_for PassesOwn.never rfl (pi_range1 (by rfl) T.z_range (pa_cons pe_int pa_nil)) (pg_name (i := 3) nd rfl (Or.inl rfl))
    (pss_cons (ps_set (i := 4) nd rfl (Or.inl rfl) (pe_call G__law_raw (hr.mono (by first | decide | omega)) (by rfl) T.m__law_raw T.k__law_raw T.b__law_raw .nil pass0 (pa_cons (pv 2) (pa_cons pe_int (pa_cons pe_int pa_nil)))))
    (pss_cons (ps_set (i := 5) nd rfl (Or.inl rfl) (pe_ifExp (pt_cmpR op_eq (pe_call G__law_take (hr.mono (by first | decide | omega)) (by rfl) T.m__law_take T.k__law_take T.b__law_take .nil pass0 (pa_cons (pv 2) (pa_cons pe_int pa_nil))) pe_int (nomark _)) (pe_call G__law_near (hr.mono (by first | decide | omega)) (by rfl) T.m__law_near T.k__law_near T.b__law_near .nil pass0 (pa_cons (pv 2) (pa_cons (pv 4) pa_nil))) (pe_call G__law_raw (hr.mono (by first | decide | omega)) (by rfl) T.m__law_raw T.k__law_raw T.b__law_raw .nil pass0 (pa_cons (pv 2) (pa_cons pe_int (pa_cons pe_int pa_nil))))))
    (pss_cons (ps_par (i := 6) (j := 7) (by rfl) nd rfl rfl (by decide) rfl rfl (pa_cons (pe_call G__law_cal_of (hr.mono (by first | decide | omega)) (by rfl) T.m__law_cal_of T.k__law_cal_of T.b__law_cal_of .nil pass0 (pa_cons (pv 4) pa_nil)) (pa_cons (pe_call G__law_cal_of (hr.mono (by first | decide | omega)) (by rfl) T.m__law_cal_of T.k__law_cal_of T.b__law_cal_of .nil pass0 (pa_cons (pv 5) pa_nil)) pa_nil)) (by rfl))
    (pss_cons (ps_set (i := 8) nd rfl (Or.inl rfl) (pe_call G__law_dues (hr.mono (by first | decide | omega)) (by rfl) T.m__law_dues T.k__law_dues T.b__law_dues .nil pass0 (pa_cons (pv 4) (pa_cons (pv 5) pa_nil))))
    (pss_cons (ps_if (pt_cmpR (op_neD hr.units) (pe_lc (own := [("_law_made", 9)]) (g := (gName 9)) (by rfl) nd (pi_tup (pe_tup (pa_cons (pe_op (op_binM T.M_Calendar___and__ T.sf_Calendar R_and (hr.mono (by decide)) pass0) (pv 6) (pv 7)) (pa_cons (pe_op (op_binM T.M_Calendar___or__ T.sf_Calendar R_or (hr.mono (by decide)) pass0) (pv 6) (pv 7)) (pa_cons (pe_op (op_binM T.M_Calendar___sub__ T.sf_Calendar R_sub (hr.mono (by decide)) pass0) (pv 6) (pv 7)) (pa_cons (pe_op (op_binM T.M_Calendar___xor__ T.sf_Calendar R_xor (hr.mono (by decide)) pass0) (pv 6) (pv 7)) pa_nil)))))) (blkOk_by (N := ["_law_script", "_law_k", "_law_box_here", "_law_turn", "_law_one", "_law_other", "_law_p", "_law_q", "_law_due", "_law_made", "_law_kept", "_law_every", "_law_less"]) (sc := defScope s_law) (own := [("_law_made", 9)]) (by decide +kernel)) (fun _ _ _ _ _ => by exact (pg_name (i := 9) nd rfl (Or.inl rfl))) (fun _ _ _ _ _ => by exact pts_nil) (fun _ _ _ _ _ => by exact (pe_callTy (call_strO T.M_Calendar___str__ R_str (hr.mono (by decide)) pass0) (by rfl) T.z_str (by decide +kernel) (pa_cons (pv 9) pa_nil)))) (pv 8) (nomark _)) (pss_one (ps_ret pe_bl)) pss_nil)
    (pss_cons (ps_set (i := 10) nd rfl (Or.inl rfl) (pe_lst (pa_cons (pv 6) (pa_cons (pv 6) (pa_cons (pv 6) (pa_cons (pv 6) pa_nil))))))
    (pss_cons (ps_augS (pv 10) pe_int get_list (pv 7) (ip_binM T.M_Calendar___and__ T.sf_Calendar T.m2_Calendar T.iq_Calendar_and T.io_Calendar_and R_and (hr.mono (by decide)) pass0) set_list)
    (pss_cons (ps_augS (pv 10) pe_int get_list (pv 7) (ip_binM T.M_Calendar___or__ T.sf_Calendar T.m2_Calendar T.iq_Calendar_or T.io_Calendar_or R_or (hr.mono (by decide)) pass0) set_list)
    (pss_cons (ps_augS (pv 10) pe_int get_list (pv 7) (ip_binM T.M_Calendar___sub__ T.sf_Calendar T.m2_Calendar T.iq_Calendar_sub T.io_Calendar_sub R_sub (hr.mono (by decide)) pass0) set_list)
    (pss_cons (ps_augS (pv 10) pe_int get_list (pv 7) (ip_binM T.M_Calendar___xor__ T.sf_Calendar T.m2_Calendar T.iq_Calendar_xor T.io_Calendar_xor R_xor (hr.mono (by decide)) pass0) set_list)
    (pss_cons (ps_if (PW.pt (pw_or (pt_cmpR (op_neD hr.units) (pe_lc (own := [("_law_made", 9)]) (g := (gName 9)) (by rfl) nd (pi_list (pv 10)) (blkOk_by (N := ["_law_script", "_law_k", "_law_box_here", "_law_turn", "_law_one", "_law_other", "_law_p", "_law_q", "_law_due", "_law_made", "_law_kept", "_law_every", "_law_less"]) (sc := defScope s_law) (own := [("_law_made", 9)]) (by decide +kernel)) (fun _ _ _ _ _ => by exact (pg_name (i := 9) nd rfl (Or.inl rfl))) (fun _ _ _ _ _ => by exact pts_nil) (fun _ _ _ _ _ => by exact (pe_callTy (call_strO T.M_Calendar___str__ R_str (hr.mono (by decide)) pass0) (by rfl) T.z_str (by decide +kernel) (pa_cons (pv 9) pa_nil)))) (pv 8) (nomark _)) (pw_or (pt_cmpR (op_neO T.O_Calendar R_eq (hr.mono (by decide)) pass0) (pv 6) (pe_call G__law_cal_of (hr.mono (by first | decide | omega)) (by rfl) T.m__law_cal_of T.k__law_cal_of T.b__law_cal_of .nil pass0 (pa_cons (pv 4) pa_nil)) (nomark _)) (pw_or1 (pt_cmpR (op_neO T.O_Calendar R_eq (hr.mono (by decide)) pass0) (pv 7) (pe_call G__law_cal_of (hr.mono (by first | decide | omega)) (by rfl) T.m__law_cal_of T.k__law_cal_of T.b__law_cal_of .nil pass0 (pa_cons (pv 5) pa_nil)) (nomark _)))))) (pss_one (ps_ret pe_bl)) pss_nil)
    (pss_cons (ps_set (i := 11) nd rfl (Or.inl rfl) (pe_tup (pa_cons (pe_tup pa_nil) (pa_cons pe_int (pa_cons pe_int (pa_cons (pe_lst (pa_cons pe_int pa_nil)) pa_nil))))))
    (pss_cons (ps_set (i := 12) nd rfl (Or.inl rfl) (pe_call G__law_made_by (hr.mono (by first | decide | omega)) (by rfl) T.m__law_made_by T.k__law_made_by T.b__law_made_by .nil pass0 (pa_cons (pv 11) (pa_cons (pv 4) (pa_cons (pe_lam (nm := fun _ _ => lamQ "law") hTB hcode hmT rfl hu rfl rfl (by decide)) pa_nil)))))
    (pss_one (ps_if (PW.pt (pw_or (pt_cmpR op_ne (pe_callTy (call_strO T.M_Calendar___str__ R_str (hr.mono (by decide)) pass0) (by rfl) T.z_str (by decide +kernel) (pa_cons (pe_un (un_invM T.M_Calendar___invert__ R_inv (hr.mono (by decide)) pass0) (pv 6)) pa_nil)) (pe_call G__law_cal_text (hr.mono (by first | decide | omega)) (by rfl) T.m__law_cal_text T.k__law_cal_text T.b__law_cal_text .nil pass0 (pa_cons (pe_call G__law_least_form (hr.mono (by first | decide | omega)) (by rfl) T.m__law_least_form T.k__law_least_form T.b__law_least_form .nil pass0 (pa_cons (pv 12) pa_nil)) pa_nil)) (nomark _)) (pw_or1 (pt_cmpR (op_neO T.O_Calendar R_eq (hr.mono (by decide)) pass0) (pe_un (un_invM T.M_Calendar___invert__ R_inv (hr.mono (by decide)) pass0) (pe_un (un_invM T.M_Calendar___invert__ R_inv (hr.mono (by decide)) pass0) (pv 6))) (pv 6) (nomark _))))) (pss_one (ps_ret pe_bl)) pss_nil)))))))))))))))))))
    (pss_one (ps_ret (pe_cmpR op_eq (pe_callTy (call_strO T.M_Calendar___str__ R_str (hr.mono (by decide)) pass0) (by rfl) T.z_str (by decide +kernel) (pa_cons (pe_un (un_invM T.M_Calendar___invert__ R_inv (hr.mono (by decide)) pass0) (pe_make0 T.M_Calendar GI_Calendar (hr.mono (by first | decide | omega)) (by rfl) T.m_Calendar B0_Calendar V0_Calendar pass0)) pa_nil)) pe_str (nomark _))))), ?_⟩
    refine ⟨_, rfl, _, _, rfl, .inl hS, _, _, rfl, _, _, rfl, _, rfl, ?_, ?_, ?_⟩
    · split <;> split <;> omega
    · split <;> split <;> omega
    refine for_range (fun i σ H2 => ∃ y1 y2 y3 y4 y5 y6 y7 y8 y10 y11 y12, σ = [some (.ref a), y1, y2, y3, y4, y5, y6, y7, y8, none, y10, y11, y12] ∧ Kp H H2 ∧ TabsN (tabsT T) H2)
      ⟨none, none, none, none, none, none, none, none, none, none, none, rfl, Kp.refl H, tb⟩ (fun i σ H2 hi hP => ?_) (fun σ H2 hP => ?_)
    · obtain ⟨y1, y2, y3, y4, y5, y6, y7, y8, y10, y11, y12, rfl, kp2, tb2⟩ := hP
      have i4 : i < 1000 := by
        revert hi
        split <;> split <;> omega
      refine ⟨_, rfl, _, rfl, a, ns, _, rfl, kp2.sqL hS, by omega, by omega, fun H3 b s3 nb B3 => ?_⟩
      have kp3 := kp2.trans (Kp.of s3)
      have nb0 : H b = none := kp2.n b nb
      have tb3 := tabs_same tb2 s3
      refine ⟨4, rfl, by decide, by decide, for_range (fun j σ H4 => ∃ y3 y4 y5 y6 y7 y8 y10 y11 y12, σ = [some (.ref a), some (.int (0 + (i : Int))), some (.ref b), y3, y4, y5, y6, y7, y8, none, y10, y11, y12] ∧ KpB b H3 H4 ∧ Box H4 b ∧ TabsN (tabsT T) H4)
        ⟨y3, y4, y5, y6, y7, y8, y10, y11, y12, rfl, KpB.refl _ _, B3, tb3⟩ (fun j σ H4 hj hP => ?_) (fun σ H4 hP => ?_)⟩
      · obtain ⟨y3, y4, y5, y6, y7, y8, y10, y11, y12, rfl, k4, B4, tb4⟩ := hP
        refine ⟨_, rfl, b, 15, 12, rfl, B4, by decide, by decide, by decide, by decide, fun t a0 a3 fs rs q p H5 ht h0 h3 n0 n3 ne0 ne3 ne03 ri B5 k5 => ?_⟩
        have rh : RawH H5 t a0 a3 fs rs q p := ⟨ht, h0, h3⟩
        have k05 := k4.trans (KpB.but k5 B5)
        have tb5 := TabsN.but tb4 B4 k5
        have q1 := ri.q1
        have q2 := ri.q2
        have p1 := ri.p1
        have p2 := ri.p2
        have tl : TellI fs rs q p := ⟨q1, by omega, p1, by omega, Nat.le_trans ri.f1 (by decide), Nat.le_trans ri.r1 (by decide), ri.f2, ri.r2⟩
        clear ht h0 h3
        dsimp only [gName]
        refine asg_go (if_any (fun v H' => ∃ (u c0 c3 : Addr) (FS RS : List Int) (Q' P' : Int), v = .ref u ∧ RawH H' u c0 c3 FS RS Q' P' ∧ RawN FS RS Q' P' ∧ c0 ≠ b ∧ c3 ≠ b ∧ Box H' b ∧ But b H5 H') (fun v H6 hC => ?_) (fun R hR => ?_))
        rotate_left
        · refine ⟨_, rfl, b, 3, rfl, B5, by decide, by decide, fun r H6 r0 r1 B6 k6 => ⟨rfl, _, rfl, ?_⟩⟩
          refine ifB (fun _ => ?_) (fun _ => ?_)
          · have z6 := B5.fz k6
            refine ⟨_, rfl, _, rfl, b, t, a0, a3, fs, rs, q, p, rfl, B6, ⟨z6 _ _ trivial rh.t, k6 _ _ ne0 rh.f, k6 _ _ ne3 rh.r⟩, ne0, ne3, ri, fun u c0 c3 FS RS H7 RH rn m0 m3 B7 k7 => hR _ _ ⟨u, c0, c3, FS, RS, q, p, rfl, RH, rn, m0, m3, B7, k6.trans k7⟩⟩
          · refine ⟨_, rfl, b, 15, 8, rfl, B6, by decide, by decide, by decide, by decide, fun u c0 c3 FS RS Q' P' H7 hu g0 g3 m0 m3 me0 me3 me03 RI B7 k7 => hR _ _ ⟨u, c0, c3, FS, RS, Q', P', rfl, ⟨hu, g0, g3⟩, ?_, me0, me3, B7, k6.trans k7⟩⟩
            have f1 := RI.f1
            have r1 := RI.r1
            have x2 := RI.p2
            exact ⟨RI.q1, RI.q2, RI.p1, by omega, by omega, by omega, RI.f2, RI.r2⟩
        obtain ⟨u, c0, c3, FS, RS, Q', P', rfl, RH, RI, me0, me3, B6, k6⟩ := hC
        have z6 := B5.fz k6
        have rh : RawH H6 t a0 a3 fs rs q p := ⟨z6 _ _ trivial rh.t, k6 _ _ ne0 rh.f, k6 _ _ ne3 rh.r⟩
        have k06 := k05.trans (KpB.but k6 B6)
        have tb6 := TabsN.but tb5 B5 k6
        have Q1 := RI.q1
        have Q2 := RI.q2
        have P1 := RI.p1
        have P2 := RI.p2
        have f1 := RI.f1
        have r1 := RI.r1
        have TL : TellI FS RS Q' P' := ⟨Q1, by omega, P1, by omega, by omega, by omega, RI.f2, RI.r2⟩
        dsimp only [gName]
        refine ⟨_, rfl, t, a0, a3, fs, rs, q, p, rfl, rh.d, tl, fun H7 x s7 nx cox => ?_⟩
        refine ⟨_, rfl, u, c0, c3, FS, RS, Q', P', rfl, (RH.same s7).d, TL, fun H8 y s8 ny coy => ⟨_, _, rfl, ?_⟩⟩
        have s68 := s7.trans s8
        have M1 : 1 ≤ p * P' ∧ p * P' ≤ 144 := by
          have h1 := Int.mul_le_mul p1 P1 (by decide) (by omega)
          have h2 := Int.mul_le_mul p2 P2 (by omega) (by decide)
          omega
        obtain ⟨M, hM⟩ : ∃ M, M = p * P' := ⟨_, rfl⟩
        rw [← hM] at M1
        have cx : CalS T.c_Calendar 30 M H8 x (memC fs q p rs) := ⟨fs, rs, q, p, cox.fz (Fz.of_same s8), tl, by omega, hM ▸ Int.dvd_mul_right _ _, fun n _ => rfl⟩
        have cy : CalS T.c_Calendar 30 M H8 y (memC FS Q' P' RS) := ⟨FS, RS, Q', P', coy, TL, by omega, hM ▸ Int.dvd_mul_left _ _, fun n _ => rfl⟩
        have rh := rh.same s68
        have RH := RH.same s68
        have tb8 := tabs_same tb6 s68
        have B8 := B6.same s68
        have k08 := k06.trans (KpB.of s68)
        clear tb6 tb5 B6 k06 k05 B5 k6 z6 s68 s7 s8 nx ny cox coy k5 k4 tb4
        dsimp only
        refine ⟨_, rfl, _, rfl, t, a0, a3, u, c0, c3, fs, rs, FS, RS, q, p, Q', P', rfl, rh.d, RH.d, q1, by omega, p1, p2, Q1, by omega, P1, P2, tb8, fun D w1 w2 w3 w4 H9 e9 n9 tb9 hD u1 u2 u3 u4 => ?_⟩
        have cx := cx.fz (Rs.ExtN.fz e9)
        have cy := cy.fz (Rs.ExtN.fz e9)
        have rh := rh.extN e9
        have RH := RH.extN e9
        have B9 := Rs.Box.extN B8 e9
        have k09 := k08.trans (KpB.kp ⟨e9, n9⟩)
        clear B8 k08 tb8 e9 n9
        have six : ∀ {Hc : Hp} {z1 z2 z3 z4 : Addr} {j : Nat} {v : V}, CalS T.c_Calendar 30 M Hc z1 (fun n => memC fs q p rs n && memC FS Q' P' RS n) → CalS T.c_Calendar 30 M Hc z2 (fun n => memC fs q p rs n || memC FS Q' P' RS n) → CalS T.c_Calendar 30 M Hc z3 (fun n => memC fs q p rs n && !memC FS Q' P' RS n) →
            CalS T.c_Calendar 30 M Hc z4 (fun n => xor (memC fs q p rs n) (memC FS Q' P' RS n)) → [V.ref z1, .ref z2, .ref z3, .ref z4][j]? = some v → ∃ z, v = .ref z ∧ CalS T.c_Calendar 30 M Hc z (four (memC fs q p rs) (memC FS Q' P' RS) j) := by
          intro Hc z1 z2 z3 z4 j v c1 c2 c3 c4 hj
          match j, hj with
          | 0, hj => exact ⟨z1, by simpa using hj.symm, c1⟩
          | 1, hj => exact ⟨z2, by simpa using hj.symm, c2⟩
          | 2, hj => exact ⟨z3, by simpa using hj.symm, c3⟩
          | 3, hj => exact ⟨z4, by simpa using hj.symm, c4⟩
        dsimp only [gName]
        refine seqif_go (tst_go (lct_go (tup_go ?_)))
        refine ⟨_, rfl, _, rfl, bin_go cx cy M1.1 M1.2 fun z1 H10 t1 _ d1 => ?_⟩
        refine ⟨_, rfl, _, rfl, bin_go (cx.same t1) (cy.same t1) M1.1 M1.2 fun z2 H11 t2 _ d2 => ?_⟩
        have t02 := t1.trans t2
        refine ⟨_, rfl, _, rfl, bin_go (cx.same t02) (cy.same t02) M1.1 M1.2 fun z3 H12 t3 _ d3 => ?_⟩
        have t03 := t02.trans t3
        refine ⟨_, rfl, _, rfl, bin_go (cx.same t03) (cy.same t03) M1.1 M1.2 fun z4 H13 t4 _ d4 => ?_⟩
        have t04 := t03.trans t4
        refine ⟨szL (Nat.le_of_ble_eq_true rfl), fun T0 nT => ?_⟩
        have t5 := same_new (o := .tup [.ref z1, .ref z2, .ref z3, .ref z4]) nT
        refine lmapTE (xs := [.ref z1, .ref z2, .ref z3, .ref z4]) (fun j v => ∃ y, v = .str y ∧ TextOf (four (memC fs q p rs) (memC FS Q' P' RS) j) y) upd_same (by simp) (fun j v hj Hc R sc hR => ?_) (fun G0 H15 ys nG s15 hG lys hys => ?_)
        · have sc5 := t5.trans sc
          obtain ⟨z, rfl, cz⟩ := six (d1.same (((t2.trans t3).trans t4).trans sc5)) (d2.same ((t3.trans t4).trans sc5)) (d3.same (t4.trans sc5)) (d4.same sc5) hj
          exact str_go rfl cz fun y' Hd sd ty => hR _ _ sd ⟨y', rfl, ty⟩
        obtain rfl := four_same lys hys u1 u2 u3 u4
        have s0 := (t04.trans t5).trans s15
        have oks := ok_s4 u1 u2 u3 u4
        refine ⟨_, rfl, _, _, .lst (SqL.of hG) dp_s4, .lst (SqL.of (s0 _ _ hD)) dp_s4, oks.shaped (by decide), oks.shaped (by decide), _, rfl, ifF (by rw [eqv_self oks]; rfl) ?_⟩
        have hD := s0 _ _ hD
        have cx := cx.same s0
        have cy := cy.same s0
        have rh := rh.same s0
        have RH := RH.same s0
        have B10 := B9.same s0
        have tb10 := tabs_same tb9 s0
        have k10 := k09.trans (KpB.of s0)
        clear d1 d2 d3 d4 t1 t2 t3 t4 t02 t03 t04 t5 nT s15 hG s0 B9 tb9 k09 hys nG
        dsimp only [tNext]
        refine ⟨_, rfl, _, rfl, _, rfl, _, rfl, szL (Nat.le_of_ble_eq_true rfl), fun L nL => ?_⟩
        have nL3 : H3 L = none := k10.n L nL
        have t1 := same_new (o := .lst [.ref x, .ref x, .ref x, .ref x]) nL
        have cx := cx.same t1
        have cy := cy.same t1
        have rh := rh.same t1
        have RH := RH.same t1
        have B10 := B10.same t1
        have tb10 := tabs_same tb10 t1
        have k10 := k10.trans (KpB.of t1)
        have hD := t1 _ _ hD
        have hL : upd H15 L (.lst [.ref x, .ref x, .ref x, .ref x]) L = some (.lst [.ref x, .ref x, .ref x, .ref x]) := upd_same
        dsimp only [gName]
        generalize upd H15 L _ = H16 at hL hD k10 tb10 B10 RH rh cx cy ⊢
        clear t1 nL
        refine ⟨_, rfl, L, _, 0, _, rfl, rfl, SqL.of hL, by decide, rfl, _, rfl, bin_go cx cy M1.1 M1.2 fun z1 H17 t1 _ d1 => ⟨L, _, 0, 0, rfl, rfl, t1 _ _ hL, rfl, ?_⟩⟩
        have hL := t1 _ _ hL
        have cx := (cx.same t1).app (o := .lst [.ref z1, .ref x, .ref x, .ref x]) hL
        have cy := (cy.same t1).app (o := .lst [.ref z1, .ref x, .ref x, .ref x]) hL
        have d1 := d1.app (o := .lst [.ref z1, .ref x, .ref x, .ref x]) hL
        have rh := (rh.same t1).app (o := .lst [.ref z1, .ref x, .ref x, .ref x]) hL
        have RH := (RH.same t1).app (o := .lst [.ref z1, .ref x, .ref x, .ref x]) hL
        have B10 := Box.app (B10.same t1) (o := .lst [.ref z1, .ref x, .ref x, .ref x]) hL
        have tb10 := tabs_app (o := .lst [.ref z1, .ref x, .ref x, .ref x]) (tabs_same tb10 t1) hL
        have k10 := (k10.trans (KpB.of t1)).app (o := .lst [.ref z1, .ref x, .ref x, .ref x]) nL3
        have hD : upd H17 L (.lst [.ref z1, .ref x, .ref x, .ref x]) D = some (.lst [.str w1, .str w2, .str w3, .str w4]) := by
          rw [upd_ne (fun e => by rw [e] at hD; rw [t1 _ _ hD] at hL; cases hL)]
          exact t1 _ _ hD
        have hL : upd H17 L (.lst [.ref z1, .ref x, .ref x, .ref x]) L = some (.lst [.ref z1, .ref x, .ref x, .ref x]) := upd_same
        dsimp only [List.set]
        generalize upd H17 L _ = H16 at d1 hL hD k10 tb10 B10 RH rh cx cy ⊢
        clear t1
        refine ⟨_, rfl, L, _, 1, _, rfl, rfl, SqL.of hL, by decide, rfl, _, rfl, bin_go cx cy M1.1 M1.2 fun z2 H17 t1 _ d2 => ⟨L, _, 1, 1, rfl, rfl, t1 _ _ hL, rfl, ?_⟩⟩
        have hL := t1 _ _ hL
        have cx := (cx.same t1).app (o := .lst [.ref z1, .ref z2, .ref x, .ref x]) hL
        have cy := (cy.same t1).app (o := .lst [.ref z1, .ref z2, .ref x, .ref x]) hL
        have d2 := d2.app (o := .lst [.ref z1, .ref z2, .ref x, .ref x]) hL
        have d1 := (d1.same t1).app (o := .lst [.ref z1, .ref z2, .ref x, .ref x]) hL
        have rh := (rh.same t1).app (o := .lst [.ref z1, .ref z2, .ref x, .ref x]) hL
        have RH := (RH.same t1).app (o := .lst [.ref z1, .ref z2, .ref x, .ref x]) hL
        have B10 := Box.app (B10.same t1) (o := .lst [.ref z1, .ref z2, .ref x, .ref x]) hL
        have tb10 := tabs_app (o := .lst [.ref z1, .ref z2, .ref x, .ref x]) (tabs_same tb10 t1) hL
        have k10 := (k10.trans (KpB.of t1)).app (o := .lst [.ref z1, .ref z2, .ref x, .ref x]) nL3
        have hD : upd H17 L (.lst [.ref z1, .ref z2, .ref x, .ref x]) D = some (.lst [.str w1, .str w2, .str w3, .str w4]) := by
          rw [upd_ne (fun e => by rw [e] at hD; rw [t1 _ _ hD] at hL; cases hL)]
          exact t1 _ _ hD
        have hL : upd H17 L (.lst [.ref z1, .ref z2, .ref x, .ref x]) L = some (.lst [.ref z1, .ref z2, .ref x, .ref x]) := upd_same
        dsimp only [List.set]
        generalize upd H17 L _ = H16 at d1 d2 hL hD k10 tb10 B10 RH rh cx cy ⊢
        clear t1
        refine ⟨_, rfl, L, _, 2, _, rfl, rfl, SqL.of hL, by decide, rfl, _, rfl, bin_go cx cy M1.1 M1.2 fun z3 H17 t1 _ d3 => ⟨L, _, 2, 2, rfl, rfl, t1 _ _ hL, rfl, ?_⟩⟩
        have hL := t1 _ _ hL
        have cx := (cx.same t1).app (o := .lst [.ref z1, .ref z2, .ref z3, .ref x]) hL
        have cy := (cy.same t1).app (o := .lst [.ref z1, .ref z2, .ref z3, .ref x]) hL
        have d3 := d3.app (o := .lst [.ref z1, .ref z2, .ref z3, .ref x]) hL
        have d1 := (d1.same t1).app (o := .lst [.ref z1, .ref z2, .ref z3, .ref x]) hL
        have d2 := (d2.same t1).app (o := .lst [.ref z1, .ref z2, .ref z3, .ref x]) hL
        have rh := (rh.same t1).app (o := .lst [.ref z1, .ref z2, .ref z3, .ref x]) hL
        have RH := (RH.same t1).app (o := .lst [.ref z1, .ref z2, .ref z3, .ref x]) hL
        have B10 := Box.app (B10.same t1) (o := .lst [.ref z1, .ref z2, .ref z3, .ref x]) hL
        have tb10 := tabs_app (o := .lst [.ref z1, .ref z2, .ref z3, .ref x]) (tabs_same tb10 t1) hL
        have k10 := (k10.trans (KpB.of t1)).app (o := .lst [.ref z1, .ref z2, .ref z3, .ref x]) nL3
        have hD : upd H17 L (.lst [.ref z1, .ref z2, .ref z3, .ref x]) D = some (.lst [.str w1, .str w2, .str w3, .str w4]) := by
          rw [upd_ne (fun e => by rw [e] at hD; rw [t1 _ _ hD] at hL; cases hL)]
          exact t1 _ _ hD
        have hL : upd H17 L (.lst [.ref z1, .ref z2, .ref z3, .ref x]) L = some (.lst [.ref z1, .ref z2, .ref z3, .ref x]) := upd_same
        dsimp only [List.set]
        generalize upd H17 L _ = H16 at d1 d2 d3 hL hD k10 tb10 B10 RH rh cx cy ⊢
        clear t1
        refine ⟨_, rfl, L, _, 3, _, rfl, rfl, SqL.of hL, by decide, rfl, _, rfl, bin_go cx cy M1.1 M1.2 fun z4 H17 t1 _ d4 => ⟨L, _, 3, 3, rfl, rfl, t1 _ _ hL, rfl, ?_⟩⟩
        have hL := t1 _ _ hL
        have cx := (cx.same t1).app (o := .lst [.ref z1, .ref z2, .ref z3, .ref z4]) hL
        have cy := (cy.same t1).app (o := .lst [.ref z1, .ref z2, .ref z3, .ref z4]) hL
        have d4 := d4.app (o := .lst [.ref z1, .ref z2, .ref z3, .ref z4]) hL
        have d1 := (d1.same t1).app (o := .lst [.ref z1, .ref z2, .ref z3, .ref z4]) hL
        have d2 := (d2.same t1).app (o := .lst [.ref z1, .ref z2, .ref z3, .ref z4]) hL
        have d3 := (d3.same t1).app (o := .lst [.ref z1, .ref z2, .ref z3, .ref z4]) hL
        have rh := (rh.same t1).app (o := .lst [.ref z1, .ref z2, .ref z3, .ref z4]) hL
        have RH := (RH.same t1).app (o := .lst [.ref z1, .ref z2, .ref z3, .ref z4]) hL
        have B10 := Box.app (B10.same t1) (o := .lst [.ref z1, .ref z2, .ref z3, .ref z4]) hL
        have tb10 := tabs_app (o := .lst [.ref z1, .ref z2, .ref z3, .ref z4]) (tabs_same tb10 t1) hL
        have k10 := (k10.trans (KpB.of t1)).app (o := .lst [.ref z1, .ref z2, .ref z3, .ref z4]) nL3
        have hD : upd H17 L (.lst [.ref z1, .ref z2, .ref z3, .ref z4]) D = some (.lst [.str w1, .str w2, .str w3, .str w4]) := by
          rw [upd_ne (fun e => by rw [e] at hD; rw [t1 _ _ hD] at hL; cases hL)]
          exact t1 _ _ hD
        have hL : upd H17 L (.lst [.ref z1, .ref z2, .ref z3, .ref z4]) L = some (.lst [.ref z1, .ref z2, .ref z3, .ref z4]) := upd_same
        dsimp only [List.set]
        generalize upd H17 L _ = H16 at d1 d2 d3 d4 hL hD k10 tb10 B10 RH rh cx cy ⊢
        clear t1
        refine seqif_go (or_go (tst_go ?_))
        refine lmapE (sl := 9) (xs := [.ref z1, .ref z2, .ref z3, .ref z4]) (fun j v => ∃ y, v = .str y ∧ TextOf (four (memC fs q p rs) (memC FS Q' P' RS) j) y) (fun R hR => ⟨_, rfl, hR⟩) hL (by simp) (fun j v hj Hc R sc hR => ?_) (fun G0 H17 ys nG s17 hG lys hys => ?_)
        · obtain ⟨z, rfl, cz⟩ := six (d1.same sc) (d2.same sc) (d3.same sc) (d4.same sc) hj
          exact str_go rfl cz fun y' Hd sd ty => hR _ _ sd ⟨y', rfl, ty⟩
        obtain rfl := four_same lys hys u1 u2 u3 u4
        refine ⟨_, rfl, _, _, .lst (SqL.of hG) dp_s4, .lst (SqL.of (s17 _ _ hD)) dp_s4, oks.shaped (by decide), oks.shaped (by decide), _, rfl, ifF (by rw [eqv_self oks]; rfl) ?_⟩
        have cx := cx.same s17
        have cy := cy.same s17
        have rh := rh.same s17
        have RH := RH.same s17
        have B11 := Rs.Box.same B10 s17
        have tb11 := tabs_same tb10 s17
        have k11 := k10.trans (KpB.of s17)
        clear d1 d2 d3 d4 hG hL hD s17 nG hys B10 tb10 k10
        have dv1 : p ∣ M := hM ▸ Int.dvd_mul_right _ _
        have dv2 : P' ∣ M := hM ▸ Int.dvd_mul_left _ _
        refine or_go (tst_go ⟨_, rfl, _, rfl, t, a0, a3, fs, rs, q, p, rfl, rh.d, tl, fun H18 x2 s18 _ co2 => ?_⟩)
        refine ne_go T rfl (cx.same s18) (g := memC fs q p rs) ⟨fs, rs, q, p, co2, tl, by omega, dv1, fun n _ => rfl⟩ (fun n _ => rfl) ⟨_, rfl, ifF rfl ?_⟩
        refine tst_go ⟨_, rfl, _, rfl, u, c0, c3, FS, RS, Q', P', rfl, (RH.same s18).d, TL, fun H19 y2 s19 _ co3 => ?_⟩
        have s1719 := s18.trans s19
        refine ne_go T rfl (cy.same s1719) (g := memC FS Q' P' RS) ⟨FS, RS, Q', P', co3, TL, by omega, dv2, fun n _ => rfl⟩ (fun n _ => rfl) ⟨_, rfl, ifF rfl ?_⟩
        have cx := cx.same s1719
        have rh := rh.same s1719
        have B12 := Rs.Box.same B11 s1719
        have tb12 := tabs_same tb11 s1719
        have k12 := k11.trans (KpB.of s1719)
        clear cy RH B11 tb11 k11 s1719 s18 s19 co2 co3
        dsimp only [tNext]
        refine ⟨szL (Nat.le_of_ble_eq_true rfl), fun E1 nE1 => ⟨szL (Nat.le_of_ble_eq_true rfl), fun E2 nE2 => ⟨szL (Nat.le_of_ble_eq_true rfl), fun E3 nE3 => ?_⟩⟩⟩
        have v1 := same_new (o := .tup []) nE1
        have v2 := same_new (o := .lst [.int 0]) nE2
        have v3 := same_new (o := .tup [.ref E1, .int 1, .int 1, .ref E2]) nE3
        have vv := (v1.trans v2).trans v3
        have ev : RawD K (upd (upd (upd H19 E1 (.tup [])) E2 (.lst [.int 0])) E3 (.tup [.ref E1, .int 1, .int 1, .ref E2])) E3 E1 E2 [] [0] 1 1 := ⟨upd_same, .inr (.inl (.inl (v3 _ _ (v2 _ _ upd_same)))), .inl (v3 _ _ upd_same)⟩
        dsimp only [gName]
        generalize upd (upd (upd H19 E1 (.tup [])) E2 (.lst [.int 0])) E3 (.tup [.ref E1, .int 1, .int 1, .ref E2]) = H20 at ev vv ⊢
        have cx := cx.same vv
        have rh := rh.same vv
        have B13 := Rs.Box.same B12 vv
        have tb13 := tabs_same tb12 vv
        have k13 := k12.trans (KpB.of vv)
        clear B12 tb12 k12 vv v3 v2 v1 nE1 nE2 nE3
        refine asg_go (made_go (fun a b => a && !b) rfl rfl ev rh.d (by decide) (by decide) (by decide) (by decide) q1 (by omega) p1 p2 tb13 (fun f c' => ok_lam (x := "_law_here") (y := "_law_there") (nscope_by (by decide +kernel)) (fun pm cdv ctv us hl => match us, hl with | [_, _], _ => rfl)
          (fun X a b hN vx vy => ⟨_, pe_and (pv 0 (by rw [hN]; rfl) vx) (pe_one (pe_not (pv 1 (by rw [hN]; rfl) vy))), fun H Q hQ => ⟨_, rfl, a, rfl, ifB (fun e => by subst e; exact ⟨_, rfl, b, rfl, hQ⟩) (fun e => by subst e; exact hQ)⟩⟩) (.inl rfl) (.inl rfl)) (fun m H21 e21 n21 tb21 mk => ?_))
        have cx := cx.fz (Rs.ExtN.fz e21)
        have B21 := Rs.Box.extN B13 e21
        have k21 := k13.trans (KpB.kp ⟨e21, n21⟩)
        clear rh B13 tb13 k13 ev e21 n21
        dsimp only [gName]
        refine if_go (or_go (tst_go (cb_go (un_go ⟨_, rfl, inv_go cx M1.1 M1.2 fun z H22 s22 _ cz => ?_⟩))))
        refine strv_go cz fun y' H23 s23 ty => ?_
        refine text_go rfl (mk.same (s22.trans s23)) fun y'' H24 s24 ty2 => ?_
        obtain rfl : y'' = y' := text_eq ty2 (ty.ext fun n n1 => by rw [all_mem n1]; rfl)
        refine ⟨rfl, _, rfl, ifF (by simp) ?_⟩
        have s2 := (s22.trans s23).trans s24
        have cx := cx.same s2
        refine tst_go (un_go (un_go ⟨_, rfl, inv_go cx M1.1 M1.2 fun z3 H25 s25 _ cz3 => inv_go cz3 M1.1 M1.2 fun z4 H26 s26 _ cz4 => ⟨_, rfl, ne_go T rfl cz4 (cx.same (s25.trans s26)) (fun n _ => by simp) ⟨_, rfl, ifF rfl ?_⟩⟩⟩))
        have s3 := s2.trans (s25.trans s26)
        dsimp only [tNext]
        exact ⟨_, _, _, _, _, _, _, _, _, rfl, k21.trans (KpB.of s3), Rs.Box.same B21 s3, tabs_same tb21 s3⟩
      · obtain ⟨y3, y4, y5, y6, y7, y8, y10, y11, y12, rfl, k4, B4, tb4⟩ := hP
        exact ⟨_, _, _, _, _, _, _, _, _, _, _, rfl, KpB.out kp3 k4 nb0, tb4⟩
    · obtain ⟨y1, y2, y3, y4, y5, y6, y7, y8, y10, y11, y12, rfl, kp2, tb2⟩ := hP
      dsimp only
      refine ret_go (opl_go (cb_go (un_go ?_)))
      refine new_go T fun z H3 s3 cz => inv_go cz (by decide) (by decide) fun z2 H4 s4 _ cz2 => ?_
      refine strv_go cz2 fun y' H5 s5 ty => ?_
      obtain rfl := text_eq ty all_text
      exact ⟨rfl, k _⟩

end
theorem all_mk {l : PySem.W.OpenLaw} {w : World} {K : PySem.W.Frag} {h : Heap} {mg : Str → Option Value} {fa : Addr} (X : K.In h) (G : h.Ns mainGlobals mg) (hfa : mg "law" = some (.ref fa)) (TA : TabsTop K ["_law_dues", "law"] h)
    {C_Calendar : Addr} (aC_Calendar : PySem.W.nsIn K mainGlobals "Calendar" = some (some (.ref C_Calendar)))
    (pg_Calendar : PySem.W.plainGet K C_Calendar Str.empty = true)
    (hd_Calendar : PySem.W.hasDictIn K C_Calendar = true)
    (po_Calendar : PySem.W.plainOver K C_Calendar = true)
    (sa_Calendar : PySem.W.findIn K (.ref C_Calendar) "__setattr__" = some (some (.builtin "object.__setattr__")))
    (mk_Calendar : PySem.W.makesIn K C_Calendar = true)
    (kc_Calendar : PySem.W.keepIn K (.ref C_Calendar) = true)
    (n_period_Calendar : PySem.W.findIn K (.ref C_Calendar) "period" = some none)
    (n_rests_Calendar : PySem.W.findIn K (.ref C_Calendar) "rests" = some none)
    (n_start_Calendar : PySem.W.findIn K (.ref C_Calendar) "start" = some none)
    (n_few_Calendar : PySem.W.findIn K (.ref C_Calendar) "few" = some none)
    (sf_Calendar : PySem.W.selfFirst K C_Calendar = true)
    (m2_Calendar : mro2 K C_Calendar = true)
    (iq_Calendar_and : PySem.W.findIn K (.ref C_Calendar) "__iand__" = some none) (io_Calendar_and : PySem.W.findIn K (.type "object") "__iand__" = some none)
    (iq_Calendar_or : PySem.W.findIn K (.ref C_Calendar) "__ior__" = some none) (io_Calendar_or : PySem.W.findIn K (.type "object") "__ior__" = some none)
    (iq_Calendar_sub : PySem.W.findIn K (.ref C_Calendar) "__isub__" = some none) (io_Calendar_sub : PySem.W.findIn K (.type "object") "__isub__" = some none)
    (iq_Calendar_xor : PySem.W.findIn K (.ref C_Calendar) "__ixor__" = some none) (io_Calendar_xor : PySem.W.findIn K (.type "object") "__ixor__" = some none)
    (cl_Calendar : (PySem.W.clsIn K C_Calendar).isSome = true)
    (tC_Calendar : PySem.W.typeIn K (.ref C_Calendar) = some (.type "type"))
    (ca_Calendar : PySem.W.findIn K (.ref C_Calendar) "__class__" = some (some (.builtin "object.__class__")))
    (mo_Calendar : PySem.W.mroIn K C_Calendar (.type "object") = some true)
    (nE_Calendar : PySem.W.findIn K (.ref C_Calendar) "__ne__" = some (some (.builtin "object.__ne__")))
    (mo_N_Calendar : PySem.W.mroIn K C_Calendar (.type "NoneType") = some false)
    (mo_S_Calendar : PySem.W.mroIn K C_Calendar (.type "str") = some false)
    (mo_T_Calendar : PySem.W.mroIn K C_Calendar (.type "tuple") = some false)
    (mo_L_Calendar : PySem.W.mroIn K C_Calendar (.type "list") = some false)
    (mo_I_Calendar : PySem.W.mroIn K C_Calendar (.type "int") = some false)
    {f0 : Addr} {od0 an0 : Option Addr} {sl0 : Array (Option Value)} {oc0 kV0 dc0 pm0 cd0 ct0 : Value}
    {T0 : Addr} {dd0 : Option Addr} {dn0 : Nat} {dsl0 : Array (Option Value)} {eD_Calendar___init___0 : Addr} {t0_1 : Tok} {t0_2 : Tok} {eD_Calendar___init___3 : Addr}
    (t0 : K.lookup T0 = some ⟨.type "tuple", dd0, .seq [Value.ref eD_Calendar___init___0, Value.int 1 t0_1, Value.int 1 t0_2, Value.ref eD_Calendar___init___3].toArray dn0, dsl0⟩)
    (l0 : K.lookup f0 = some ⟨oc0, od0, .func (PySem.W.fnOf "__init__" "Calendar.__init__" (defArgs s_Calendar___init__) (defBody s_Calendar___init__) (defScope s_Calendar___init__) (.ref T0) kV0 dc0 pm0 an0 cd0 ct0), sl0⟩) (c0 : PySem.W.codeIn K cd0 "Calendar.__init__" = true) (k0 : PySem.W.keepIn K (.ref f0) = true)
    {eC_Calendar___init___0 : Option Addr} {eN_Calendar___init___0 : Nat} {eS_Calendar___init___0 : Array (Option Value)} (lD_Calendar___init___0 : K.lookup eD_Calendar___init___0 = some ⟨.type "tuple", eC_Calendar___init___0, .seq ([] : List Value).toArray eN_Calendar___init___0, eS_Calendar___init___0⟩)
    {eC_Calendar___init___3 : Option Addr} {eN_Calendar___init___3 : Nat} {eS_Calendar___init___3 : Array (Option Value)} (lD_Calendar___init___3 : K.lookup eD_Calendar___init___3 = some ⟨.type "tuple", eC_Calendar___init___3, .seq ([] : List Value).toArray eN_Calendar___init___3, eS_Calendar___init___3⟩)
    (a0 : PySem.W.findIn K (.ref C_Calendar) "__init__" = some (some (.ref f0))) (i0 : PySem.W.isFn K (.ref f0) = true)
    {f1 : Addr} {od1 an1 : Option Addr} {sl1 : Array (Option Value)} {oc1 kV1 dc1 pm1 cd1 ct1 : Value}
    (l1 : K.lookup f1 = some ⟨oc1, od1, .func (PySem.W.fnOf "__invert__" "Calendar.__invert__" (defArgs s_Calendar___invert__) (defBody s_Calendar___invert__) (defScope s_Calendar___invert__) .none kV1 dc1 pm1 an1 cd1 ct1), sl1⟩) (c1 : PySem.W.codeIn K cd1 "Calendar.__invert__" = true) (k1 : PySem.W.keepIn K (.ref f1) = true)
    (a1 : PySem.W.findIn K (.ref C_Calendar) "__invert__" = some (some (.ref f1))) (i1 : PySem.W.isFn K (.ref f1) = true)
    {f2 : Addr} {od2 an2 : Option Addr} {sl2 : Array (Option Value)} {oc2 kV2 dc2 pm2 cd2 ct2 : Value}
    (l2 : K.lookup f2 = some ⟨oc2, od2, .func (PySem.W.fnOf "__eq__" "Calendar.__eq__" (defArgs s_Calendar___eq__) (defBody s_Calendar___eq__) (defScope s_Calendar___eq__) .none kV2 dc2 pm2 an2 cd2 ct2), sl2⟩) (c2 : PySem.W.codeIn K cd2 "Calendar.__eq__" = true) (k2 : PySem.W.keepIn K (.ref f2) = true)
    (a2 : PySem.W.findIn K (.ref C_Calendar) "__eq__" = some (some (.ref f2))) (i2 : PySem.W.isFn K (.ref f2) = true)
    {f3 : Addr} {od3 an3 : Option Addr} {sl3 : Array (Option Value)} {oc3 kV3 dc3 pm3 cd3 ct3 : Value}
    (l3 : K.lookup f3 = some ⟨oc3, od3, .func (PySem.W.fnOf "__and__" "Calendar.__and__" (defArgs s_Calendar___and__) (defBody s_Calendar___and__) (defScope s_Calendar___and__) .none kV3 dc3 pm3 an3 cd3 ct3), sl3⟩) (c3 : PySem.W.codeIn K cd3 "Calendar.__and__" = true) (k3 : PySem.W.keepIn K (.ref f3) = true)
    (a3 : PySem.W.findIn K (.ref C_Calendar) "__and__" = some (some (.ref f3))) (i3 : PySem.W.isFn K (.ref f3) = true)
    {f4 : Addr} {od4 an4 : Option Addr} {sl4 : Array (Option Value)} {oc4 kV4 dc4 pm4 cd4 ct4 : Value}
    (l4 : K.lookup f4 = some ⟨oc4, od4, .func (PySem.W.fnOf "__or__" "Calendar.__or__" (defArgs s_Calendar___or__) (defBody s_Calendar___or__) (defScope s_Calendar___or__) .none kV4 dc4 pm4 an4 cd4 ct4), sl4⟩) (c4 : PySem.W.codeIn K cd4 "Calendar.__or__" = true) (k4 : PySem.W.keepIn K (.ref f4) = true)
    (a4 : PySem.W.findIn K (.ref C_Calendar) "__or__" = some (some (.ref f4))) (i4 : PySem.W.isFn K (.ref f4) = true)
    {f5 : Addr} {od5 an5 : Option Addr} {sl5 : Array (Option Value)} {oc5 kV5 dc5 pm5 cd5 ct5 : Value}
    (l5 : K.lookup f5 = some ⟨oc5, od5, .func (PySem.W.fnOf "__sub__" "Calendar.__sub__" (defArgs s_Calendar___sub__) (defBody s_Calendar___sub__) (defScope s_Calendar___sub__) .none kV5 dc5 pm5 an5 cd5 ct5), sl5⟩) (c5 : PySem.W.codeIn K cd5 "Calendar.__sub__" = true) (k5 : PySem.W.keepIn K (.ref f5) = true)
    (a5 : PySem.W.findIn K (.ref C_Calendar) "__sub__" = some (some (.ref f5))) (i5 : PySem.W.isFn K (.ref f5) = true)
    {f6 : Addr} {od6 an6 : Option Addr} {sl6 : Array (Option Value)} {oc6 kV6 dc6 pm6 cd6 ct6 : Value}
    (l6 : K.lookup f6 = some ⟨oc6, od6, .func (PySem.W.fnOf "__xor__" "Calendar.__xor__" (defArgs s_Calendar___xor__) (defBody s_Calendar___xor__) (defScope s_Calendar___xor__) .none kV6 dc6 pm6 an6 cd6 ct6), sl6⟩) (c6 : PySem.W.codeIn K cd6 "Calendar.__xor__" = true) (k6 : PySem.W.keepIn K (.ref f6) = true)
    (a6 : PySem.W.findIn K (.ref C_Calendar) "__xor__" = some (some (.ref f6))) (i6 : PySem.W.isFn K (.ref f6) = true)
    {f7 : Addr} {od7 an7 : Option Addr} {sl7 : Array (Option Value)} {oc7 kV7 dc7 pm7 cd7 ct7 : Value}
    (l7 : K.lookup f7 = some ⟨oc7, od7, .func (PySem.W.fnOf "__str__" "Calendar.__str__" (defArgs s_Calendar___str__) (defBody s_Calendar___str__) (defScope s_Calendar___str__) .none kV7 dc7 pm7 an7 cd7 ct7), sl7⟩) (c7 : PySem.W.codeIn K cd7 "Calendar.__str__" = true) (k7 : PySem.W.keepIn K (.ref f7) = true)
    (a7 : PySem.W.findIn K (.ref C_Calendar) "__str__" = some (some (.ref f7))) (i7 : PySem.W.isFn K (.ref f7) = true)
    (spec : PySem.W.specialIn K (.builtin "object.__class__") "__get__" = some (some (.builtin "getset_descriptor.__get__"))) (takes : PySem.W.takesIn K (.builtin "object.__class__") = some true)
    {A_KEPT_BY_AND : Addr} {dd_KEPT_BY_AND : Option Addr} {n_KEPT_BY_AND : Nat} {sl_KEPT_BY_AND : Array (Option Value)}
    {A_KEPT_BY_AND0 : Addr} {dd_KEPT_BY_AND0 : Option Addr} {n_KEPT_BY_AND0 : Nat} {sl_KEPT_BY_AND0 : Array (Option Value)}
    (a_KEPT_BY_AND : PySem.W.nsIn K mainGlobals "KEPT_BY_AND" = some (some (.ref A_KEPT_BY_AND))) (l_KEPT_BY_AND : K.lookup A_KEPT_BY_AND = some ⟨.type "tuple", dd_KEPT_BY_AND, .seq [Value.ref A_KEPT_BY_AND0].toArray n_KEPT_BY_AND, sl_KEPT_BY_AND⟩)
    (ln_KEPT_BY_AND0 : K.lookup A_KEPT_BY_AND0 = some ⟨.type "tuple", dd_KEPT_BY_AND0, .seq [Value.bool true, Value.bool true].toArray n_KEPT_BY_AND0, sl_KEPT_BY_AND0⟩)
    {A_KEPT_BY_OR : Addr} {dd_KEPT_BY_OR : Option Addr} {n_KEPT_BY_OR : Nat} {sl_KEPT_BY_OR : Array (Option Value)}
    {A_KEPT_BY_OR0 : Addr} {dd_KEPT_BY_OR0 : Option Addr} {n_KEPT_BY_OR0 : Nat} {sl_KEPT_BY_OR0 : Array (Option Value)}
    {A_KEPT_BY_OR1 : Addr} {dd_KEPT_BY_OR1 : Option Addr} {n_KEPT_BY_OR1 : Nat} {sl_KEPT_BY_OR1 : Array (Option Value)}
    {A_KEPT_BY_OR2 : Addr} {dd_KEPT_BY_OR2 : Option Addr} {n_KEPT_BY_OR2 : Nat} {sl_KEPT_BY_OR2 : Array (Option Value)}
    (a_KEPT_BY_OR : PySem.W.nsIn K mainGlobals "KEPT_BY_OR" = some (some (.ref A_KEPT_BY_OR))) (l_KEPT_BY_OR : K.lookup A_KEPT_BY_OR = some ⟨.type "tuple", dd_KEPT_BY_OR, .seq [Value.ref A_KEPT_BY_OR0, Value.ref A_KEPT_BY_OR1, Value.ref A_KEPT_BY_OR2].toArray n_KEPT_BY_OR, sl_KEPT_BY_OR⟩)
    (ln_KEPT_BY_OR0 : K.lookup A_KEPT_BY_OR0 = some ⟨.type "tuple", dd_KEPT_BY_OR0, .seq [Value.bool true, Value.bool true].toArray n_KEPT_BY_OR0, sl_KEPT_BY_OR0⟩)
    (ln_KEPT_BY_OR1 : K.lookup A_KEPT_BY_OR1 = some ⟨.type "tuple", dd_KEPT_BY_OR1, .seq [Value.bool true, Value.bool false].toArray n_KEPT_BY_OR1, sl_KEPT_BY_OR1⟩)
    (ln_KEPT_BY_OR2 : K.lookup A_KEPT_BY_OR2 = some ⟨.type "tuple", dd_KEPT_BY_OR2, .seq [Value.bool false, Value.bool true].toArray n_KEPT_BY_OR2, sl_KEPT_BY_OR2⟩)
    {A_KEPT_BY_MINUS : Addr} {dd_KEPT_BY_MINUS : Option Addr} {n_KEPT_BY_MINUS : Nat} {sl_KEPT_BY_MINUS : Array (Option Value)}
    {A_KEPT_BY_MINUS0 : Addr} {dd_KEPT_BY_MINUS0 : Option Addr} {n_KEPT_BY_MINUS0 : Nat} {sl_KEPT_BY_MINUS0 : Array (Option Value)}
    (a_KEPT_BY_MINUS : PySem.W.nsIn K mainGlobals "KEPT_BY_MINUS" = some (some (.ref A_KEPT_BY_MINUS))) (l_KEPT_BY_MINUS : K.lookup A_KEPT_BY_MINUS = some ⟨.type "tuple", dd_KEPT_BY_MINUS, .seq [Value.ref A_KEPT_BY_MINUS0].toArray n_KEPT_BY_MINUS, sl_KEPT_BY_MINUS⟩)
    (ln_KEPT_BY_MINUS0 : K.lookup A_KEPT_BY_MINUS0 = some ⟨.type "tuple", dd_KEPT_BY_MINUS0, .seq [Value.bool true, Value.bool false].toArray n_KEPT_BY_MINUS0, sl_KEPT_BY_MINUS0⟩)
    {A_KEPT_BY_XOR : Addr} {dd_KEPT_BY_XOR : Option Addr} {n_KEPT_BY_XOR : Nat} {sl_KEPT_BY_XOR : Array (Option Value)}
    {A_KEPT_BY_XOR0 : Addr} {dd_KEPT_BY_XOR0 : Option Addr} {n_KEPT_BY_XOR0 : Nat} {sl_KEPT_BY_XOR0 : Array (Option Value)}
    {A_KEPT_BY_XOR1 : Addr} {dd_KEPT_BY_XOR1 : Option Addr} {n_KEPT_BY_XOR1 : Nat} {sl_KEPT_BY_XOR1 : Array (Option Value)}
    (a_KEPT_BY_XOR : PySem.W.nsIn K mainGlobals "KEPT_BY_XOR" = some (some (.ref A_KEPT_BY_XOR))) (l_KEPT_BY_XOR : K.lookup A_KEPT_BY_XOR = some ⟨.type "tuple", dd_KEPT_BY_XOR, .seq [Value.ref A_KEPT_BY_XOR0, Value.ref A_KEPT_BY_XOR1].toArray n_KEPT_BY_XOR, sl_KEPT_BY_XOR⟩)
    (ln_KEPT_BY_XOR0 : K.lookup A_KEPT_BY_XOR0 = some ⟨.type "tuple", dd_KEPT_BY_XOR0, .seq [Value.bool true, Value.bool false].toArray n_KEPT_BY_XOR0, sl_KEPT_BY_XOR0⟩)
    (ln_KEPT_BY_XOR1 : K.lookup A_KEPT_BY_XOR1 = some ⟨.type "tuple", dd_KEPT_BY_XOR1, .seq [Value.bool false, Value.bool true].toArray n_KEPT_BY_XOR1, sl_KEPT_BY_XOR1⟩)
    {f8 : Addr} {od8 an8 : Option Addr} {sl8 : Array (Option Value)} {oc8 kV8 dc8 pm8 cd8 ct8 : Value}
    (l8 : K.lookup f8 = some ⟨oc8, od8, .func (PySem.W.fnOf "is_whole" "is_whole" (defArgs s_is_whole) (defBody s_is_whole) (defScope s_is_whole) .none kV8 dc8 pm8 an8 cd8 ct8), sl8⟩) (c8 : PySem.W.codeIn K cd8 "is_whole" = true) (k8 : PySem.W.keepIn K (.ref f8) = true)
    (a8 : PySem.W.nsIn K mainGlobals "is_whole" = some (some (.ref f8)))
    {f9 : Addr} {od9 an9 : Option Addr} {sl9 : Array (Option Value)} {oc9 kV9 dc9 pm9 cd9 ct9 : Value}
    (l9 : K.lookup f9 = some ⟨oc9, od9, .func (PySem.W.fnOf "is_sequence" "is_sequence" (defArgs s_is_sequence) (defBody s_is_sequence) (defScope s_is_sequence) .none kV9 dc9 pm9 an9 cd9 ct9), sl9⟩) (c9 : PySem.W.codeIn K cd9 "is_sequence" = true) (k9 : PySem.W.keepIn K (.ref f9) = true)
    (a9 : PySem.W.nsIn K mainGlobals "is_sequence" = some (some (.ref f9)))
    {f10 : Addr} {od10 an10 : Option Addr} {sl10 : Array (Option Value)} {oc10 kV10 dc10 pm10 cd10 ct10 : Value}
    (l10 : K.lookup f10 = some ⟨oc10, od10, .func (PySem.W.fnOf "_is_from_1" "_is_from_1" (defArgs s__is_from_1) (defBody s__is_from_1) (defScope s__is_from_1) .none kV10 dc10 pm10 an10 cd10 ct10), sl10⟩) (c10 : PySem.W.codeIn K cd10 "_is_from_1" = true) (k10 : PySem.W.keepIn K (.ref f10) = true)
    (a10 : PySem.W.nsIn K mainGlobals "_is_from_1" = some (some (.ref f10)))
    {f11 : Addr} {od11 an11 : Option Addr} {sl11 : Array (Option Value)} {oc11 kV11 dc11 pm11 cd11 ct11 : Value}
    (l11 : K.lookup f11 = some ⟨oc11, od11, .func (PySem.W.fnOf "_are_between" "_are_between" (defArgs s__are_between) (defBody s__are_between) (defScope s__are_between) .none kV11 dc11 pm11 an11 cd11 ct11), sl11⟩) (c11 : PySem.W.codeIn K cd11 "_are_between" = true) (k11 : PySem.W.keepIn K (.ref f11) = true)
    (a11 : PySem.W.nsIn K mainGlobals "_are_between" = some (some (.ref f11)))
    {f12 : Addr} {od12 an12 : Option Addr} {sl12 : Array (Option Value)} {oc12 kV12 dc12 pm12 cd12 ct12 : Value}
    (l12 : K.lookup f12 = some ⟨oc12, od12, .func (PySem.W.fnOf "_ascending" "_ascending" (defArgs s__ascending) (defBody s__ascending) (defScope s__ascending) .none kV12 dc12 pm12 an12 cd12 ct12), sl12⟩) (c12 : PySem.W.codeIn K cd12 "_ascending" = true) (k12 : PySem.W.keepIn K (.ref f12) = true)
    (a12 : PySem.W.nsIn K mainGlobals "_ascending" = some (some (.ref f12)))
    {f13 : Addr} {od13 an13 : Option Addr} {sl13 : Array (Option Value)} {oc13 kV13 dc13 pm13 cd13 ct13 : Value}
    (l13 : K.lookup f13 = some ⟨oc13, od13, .func (PySem.W.fnOf "_least_period" "_least_period" (defArgs s__least_period) (defBody s__least_period) (defScope s__least_period) .none kV13 dc13 pm13 an13 cd13 ct13), sl13⟩) (c13 : PySem.W.codeIn K cd13 "_least_period" = true) (k13 : PySem.W.keepIn K (.ref f13) = true)
    (a13 : PySem.W.nsIn K mainGlobals "_least_period" = some (some (.ref f13)))
    {f14 : Addr} {od14 an14 : Option Addr} {sl14 : Array (Option Value)} {oc14 kV14 dc14 pm14 cd14 ct14 : Value}
    (l14 : K.lookup f14 = some ⟨oc14, od14, .func (PySem.W.fnOf "_least_start" "_least_start" (defArgs s__least_start) (defBody s__least_start) (defScope s__least_start) .none kV14 dc14 pm14 an14 cd14 ct14), sl14⟩) (c14 : PySem.W.codeIn K cd14 "_least_start" = true) (k14 : PySem.W.keepIn K (.ref f14) = true)
    (a14 : PySem.W.nsIn K mainGlobals "_least_start" = some (some (.ref f14)))
    {f15 : Addr} {od15 an15 : Option Addr} {sl15 : Array (Option Value)} {oc15 kV15 dc15 pm15 cd15 ct15 : Value}
    (l15 : K.lookup f15 = some ⟨oc15, od15, .func (PySem.W.fnOf "_merged" "_merged" (defArgs s__merged) (defBody s__merged) (defScope s__merged) .none kV15 dc15 pm15 an15 cd15 ct15), sl15⟩) (c15 : PySem.W.codeIn K cd15 "_merged" = true) (k15 : PySem.W.keepIn K (.ref f15) = true)
    (a15 : PySem.W.nsIn K mainGlobals "_merged" = some (some (.ref f15)))
    {f16 : Addr} {od16 an16 : Option Addr} {sl16 : Array (Option Value)} {oc16 kV16 dc16 pm16 cd16 ct16 : Value}
    (l16 : K.lookup f16 = some ⟨oc16, od16, .func (PySem.W.fnOf "_flags_of" "_flags_of" (defArgs s__flags_of) (defBody s__flags_of) (defScope s__flags_of) .none kV16 dc16 pm16 an16 cd16 ct16), sl16⟩) (c16 : PySem.W.codeIn K cd16 "_flags_of" = true) (k16 : PySem.W.keepIn K (.ref f16) = true)
    (a16 : PySem.W.nsIn K mainGlobals "_flags_of" = some (some (.ref f16)))
    {f17 : Addr} {od17 an17 : Option Addr} {sl17 : Array (Option Value)} {oc17 kV17 dc17 pm17 cd17 ct17 : Value}
    (l17 : K.lookup f17 = some ⟨oc17, od17, .func (PySem.W.fnOf "calendar_from" "calendar_from" (defArgs s_calendar_from) (defBody s_calendar_from) (defScope s_calendar_from) .none kV17 dc17 pm17 an17 cd17 ct17), sl17⟩) (c17 : PySem.W.codeIn K cd17 "calendar_from" = true) (k17 : PySem.W.keepIn K (.ref f17) = true)
    (a17 : PySem.W.nsIn K mainGlobals "calendar_from" = some (some (.ref f17)))
    {f18 : Addr} {od18 an18 : Option Addr} {sl18 : Array (Option Value)} {oc18 kV18 dc18 pm18 cd18 ct18 : Value}
    (l18 : K.lookup f18 = some ⟨oc18, od18, .func (PySem.W.fnOf "_text" "_text" (defArgs s__text) (defBody s__text) (defScope s__text) .none kV18 dc18 pm18 an18 cd18 ct18), sl18⟩) (c18 : PySem.W.codeIn K cd18 "_text" = true) (k18 : PySem.W.keepIn K (.ref f18) = true)
    (a18 : PySem.W.nsIn K mainGlobals "_text" = some (some (.ref f18)))
    {f19 : Addr} {od19 an19 : Option Addr} {sl19 : Array (Option Value)} {oc19 kV19 dc19 pm19 cd19 ct19 : Value}
    (l19 : K.lookup f19 = some ⟨oc19, od19, .func (PySem.W.fnOf "_spaced" "_spaced" (defArgs s__spaced) (defBody s__spaced) (defScope s__spaced) .none kV19 dc19 pm19 an19 cd19 ct19), sl19⟩) (c19 : PySem.W.codeIn K cd19 "_spaced" = true) (k19 : PySem.W.keepIn K (.ref f19) = true)
    (a19 : PySem.W.nsIn K mainGlobals "_spaced" = some (some (.ref f19)))
    {f20 : Addr} {od20 an20 : Option Addr} {sl20 : Array (Option Value)} {oc20 kV20 dc20 pm20 cd20 ct20 : Value}
    (l20 : K.lookup f20 = some ⟨oc20, od20, .func (PySem.W.fnOf "_law_box" "_law_box" (defArgs s__law_box) (defBody s__law_box) (defScope s__law_box) .none kV20 dc20 pm20 an20 cd20 ct20), sl20⟩) (c20 : PySem.W.codeIn K cd20 "_law_box" = true) (k20 : PySem.W.keepIn K (.ref f20) = true)
    (a20 : PySem.W.nsIn K mainGlobals "_law_box" = some (some (.ref f20)))
    {f21 : Addr} {od21 an21 : Option Addr} {sl21 : Array (Option Value)} {oc21 kV21 dc21 pm21 cd21 ct21 : Value}
    (l21 : K.lookup f21 = some ⟨oc21, od21, .func (PySem.W.fnOf "_law_take" "_law_take" (defArgs s__law_take) (defBody s__law_take) (defScope s__law_take) .none kV21 dc21 pm21 an21 cd21 ct21), sl21⟩) (c21 : PySem.W.codeIn K cd21 "_law_take" = true) (k21 : PySem.W.keepIn K (.ref f21) = true)
    (a21 : PySem.W.nsIn K mainGlobals "_law_take" = some (some (.ref f21)))
    {f22 : Addr} {od22 an22 : Option Addr} {sl22 : Array (Option Value)} {oc22 kV22 dc22 pm22 cd22 ct22 : Value}
    (l22 : K.lookup f22 = some ⟨oc22, od22, .func (PySem.W.fnOf "_law_pick" "_law_pick" (defArgs s__law_pick) (defBody s__law_pick) (defScope s__law_pick) .none kV22 dc22 pm22 an22 cd22 ct22), sl22⟩) (c22 : PySem.W.codeIn K cd22 "_law_pick" = true) (k22 : PySem.W.keepIn K (.ref f22) = true)
    (a22 : PySem.W.nsIn K mainGlobals "_law_pick" = some (some (.ref f22)))
    {f23 : Addr} {od23 an23 : Option Addr} {sl23 : Array (Option Value)} {oc23 kV23 dc23 pm23 cd23 ct23 : Value}
    (l23 : K.lookup f23 = some ⟨oc23, od23, .func (PySem.W.fnOf "_law_raw" "_law_raw" (defArgs s__law_raw) (defBody s__law_raw) (defScope s__law_raw) .none kV23 dc23 pm23 an23 cd23 ct23), sl23⟩) (c23 : PySem.W.codeIn K cd23 "_law_raw" = true) (k23 : PySem.W.keepIn K (.ref f23) = true)
    (a23 : PySem.W.nsIn K mainGlobals "_law_raw" = some (some (.ref f23)))
    {f24 : Addr} {od24 an24 : Option Addr} {sl24 : Array (Option Value)} {oc24 kV24 dc24 pm24 cd24 ct24 : Value}
    (l24 : K.lookup f24 = some ⟨oc24, od24, .func (PySem.W.fnOf "_law_has" "_law_has" (defArgs s__law_has) (defBody s__law_has) (defScope s__law_has) .none kV24 dc24 pm24 an24 cd24 ct24), sl24⟩) (c24 : PySem.W.codeIn K cd24 "_law_has" = true) (k24 : PySem.W.keepIn K (.ref f24) = true)
    (a24 : PySem.W.nsIn K mainGlobals "_law_has" = some (some (.ref f24)))
    {f25 : Addr} {od25 an25 : Option Addr} {sl25 : Array (Option Value)} {oc25 kV25 dc25 pm25 cd25 ct25 : Value}
    (l25 : K.lookup f25 = some ⟨oc25, od25, .func (PySem.W.fnOf "_law_least_form" "_law_least_form" (defArgs s__law_least_form) (defBody s__law_least_form) (defScope s__law_least_form) .none kV25 dc25 pm25 an25 cd25 ct25), sl25⟩) (c25 : PySem.W.codeIn K cd25 "_law_least_form" = true) (k25 : PySem.W.keepIn K (.ref f25) = true)
    (a25 : PySem.W.nsIn K mainGlobals "_law_least_form" = some (some (.ref f25)))
    {f26 : Addr} {od26 an26 : Option Addr} {sl26 : Array (Option Value)} {oc26 kV26 dc26 pm26 cd26 ct26 : Value}
    (l26 : K.lookup f26 = some ⟨oc26, od26, .func (PySem.W.fnOf "_law_cal_text" "_law_cal_text" (defArgs s__law_cal_text) (defBody s__law_cal_text) (defScope s__law_cal_text) .none kV26 dc26 pm26 an26 cd26 ct26), sl26⟩) (c26 : PySem.W.codeIn K cd26 "_law_cal_text" = true) (k26 : PySem.W.keepIn K (.ref f26) = true)
    (a26 : PySem.W.nsIn K mainGlobals "_law_cal_text" = some (some (.ref f26)))
    {f27 : Addr} {od27 an27 : Option Addr} {sl27 : Array (Option Value)} {oc27 kV27 dc27 pm27 cd27 ct27 : Value}
    (l27 : K.lookup f27 = some ⟨oc27, od27, .func (PySem.W.fnOf "_law_cal_of" "_law_cal_of" (defArgs s__law_cal_of) (defBody s__law_cal_of) (defScope s__law_cal_of) .none kV27 dc27 pm27 an27 cd27 ct27), sl27⟩) (c27 : PySem.W.codeIn K cd27 "_law_cal_of" = true) (k27 : PySem.W.keepIn K (.ref f27) = true)
    (a27 : PySem.W.nsIn K mainGlobals "_law_cal_of" = some (some (.ref f27)))
    {f28 : Addr} {od28 an28 : Option Addr} {sl28 : Array (Option Value)} {oc28 kV28 dc28 pm28 cd28 ct28 : Value}
    (l28 : K.lookup f28 = some ⟨oc28, od28, .func (PySem.W.fnOf "_law_common" "_law_common" (defArgs s__law_common) (defBody s__law_common) (defScope s__law_common) .none kV28 dc28 pm28 an28 cd28 ct28), sl28⟩) (c28 : PySem.W.codeIn K cd28 "_law_common" = true) (k28 : PySem.W.keepIn K (.ref f28) = true)
    (a28 : PySem.W.nsIn K mainGlobals "_law_common" = some (some (.ref f28)))
    {f29 : Addr} {od29 an29 : Option Addr} {sl29 : Array (Option Value)} {oc29 kV29 dc29 pm29 cd29 ct29 : Value}
    (l29 : K.lookup f29 = some ⟨oc29, od29, .func (PySem.W.fnOf "_law_made_by" "_law_made_by" (defArgs s__law_made_by) (defBody s__law_made_by) (defScope s__law_made_by) .none kV29 dc29 pm29 an29 cd29 ct29), sl29⟩) (c29 : PySem.W.codeIn K cd29 "_law_made_by" = true) (k29 : PySem.W.keepIn K (.ref f29) = true)
    (a29 : PySem.W.nsIn K mainGlobals "_law_made_by" = some (some (.ref f29)))
    {f30 : Addr} {od30 an30 : Option Addr} {sl30 : Array (Option Value)} {oc30 kV30 dc30 pm30 cd30 ct30 : Value}
    (l30 : K.lookup f30 = some ⟨oc30, od30, .func (PySem.W.fnOf "_law_near" "_law_near" (defArgs s__law_near) (defBody s__law_near) (defScope s__law_near) .none kV30 dc30 pm30 an30 cd30 ct30), sl30⟩) (c30 : PySem.W.codeIn K cd30 "_law_near" = true) (k30 : PySem.W.keepIn K (.ref f30) = true)
    (a30 : PySem.W.nsIn K mainGlobals "_law_near" = some (some (.ref f30)))
    {f31 : Addr} {od31 an31 : Option Addr} {sl31 : Array (Option Value)} {oc31 kV31 dc31 pm31 cd31 ct31 : Value}
    (l31 : K.lookup f31 = some ⟨oc31, od31, .func (PySem.W.fnOf "_law_dues" "_law_dues" (defArgs s__law_dues) (defBody s__law_dues) (defScope s__law_dues) .none kV31 dc31 pm31 an31 cd31 ct31), sl31⟩) (c31 : PySem.W.codeIn K cd31 "_law_dues" = true) (k31 : PySem.W.keepIn K (.ref f31) = true)
    (a31 : PySem.W.nsIn K mainGlobals "_law_dues" = some (some (.ref f31)))
    {tc__law_dues tp__law_dues : Addr} (tb__law_dues : PySem.W.tabIn K "_law_dues" = some (tc__law_dues, tp__law_dues)) (tn__law_dues : K.lookup tp__law_dues = none)
    {f32 : Addr} {od32 an32 : Option Addr} {sl32 : Array (Option Value)} {oc32 kV32 dc32 pm32 cd32 ct32 : Value}
    (l32 : K.lookup f32 = some ⟨oc32, od32, .func (PySem.W.fnOf "law" "law" (defArgs s_law) (defBody s_law) (defScope s_law) .none kV32 dc32 pm32 an32 cd32 ct32), sl32⟩) (c32 : PySem.W.codeIn K cd32 "law" = true) (k32 : PySem.W.keepIn K (.ref f32) = true)
    (a32 : PySem.W.nsIn K mainGlobals "law" = some (some (.ref f32)))
    {tc_law tp_law : Addr} (tb_law : PySem.W.tabIn K "law" = some (tc_law, tp_law)) (tn_law : K.lookup tp_law = none)
    (td__law_dues_law : tp__law_dues ≠ tp_law)
    (z_abs : PySem.W.nsIn K mainGlobals "abs" = some none)
    (z_all : PySem.W.nsIn K mainGlobals "all" = some none)
    (z_bool : PySem.W.nsIn K mainGlobals "bool" = some none)
    (z_int : PySem.W.nsIn K mainGlobals "int" = some none)
    (z_isinstance : PySem.W.nsIn K mainGlobals "isinstance" = some none)
    (z_len : PySem.W.nsIn K mainGlobals "len" = some none)
    (z_list : PySem.W.nsIn K mainGlobals "list" = some none)
    (z_max : PySem.W.nsIn K mainGlobals "max" = some none)
    (z_min : PySem.W.nsIn K mainGlobals "min" = some none)
    (z_range : PySem.W.nsIn K mainGlobals "range" = some none)
    (z_set : PySem.W.nsIn K mainGlobals "set" = some none)
    (z_sorted : PySem.W.nsIn K mainGlobals "sorted" = some none)
    (z_str : PySem.W.nsIn K mainGlobals "str" = some none)
    (z_tuple : PySem.W.nsIn K mainGlobals "tuple" = some none)
    (z_zip : PySem.W.nsIn K mainGlobals "zip" = some none)
    (aM_lcm : PySem.W.nsIn K mainGlobals "lcm" = some (some (.builtin "math.lcm")))
    : LamX.LawAtS l w K CX0 11 63 "_law_script" mg fa h := by
  have e := hfa.symm.trans (PySem.W.mg_of X G a32)
  cases e
  let T : Txt K mg := {
    c_Calendar := C_Calendar, m_Calendar := PySem.W.mg_of X G aC_Calendar,
    sf_Calendar := sf_Calendar,
    m2_Calendar := m2_Calendar,
    iq_Calendar_and := iq_Calendar_and, io_Calendar_and := io_Calendar_and,
    iq_Calendar_or := iq_Calendar_or, io_Calendar_or := io_Calendar_or,
    iq_Calendar_sub := iq_Calendar_sub, io_Calendar_sub := io_Calendar_sub,
    iq_Calendar_xor := iq_Calendar_xor, io_Calendar_xor := io_Calendar_xor,
    C_Calendar := ⟨pg_Calendar, hd_Calendar, po_Calendar, sa_Calendar⟩,
    n_Calendar_period := n_period_Calendar,
    n_Calendar_rests := n_rests_Calendar,
    n_Calendar_start := n_start_Calendar,
    n_Calendar_few := n_few_Calendar,
    I_Calendar := ⟨cl_Calendar, tC_Calendar, ca_Calendar, spec, takes, mo_Calendar⟩, N_Calendar := ⟨mo_N_Calendar, mo_S_Calendar, mo_T_Calendar, mo_L_Calendar, mo_I_Calendar⟩,
    e_Calendar___init___0 := eD_Calendar___init___0,
    e_Calendar___init___3 := eD_Calendar___init___3,
    a_Calendar___init__ := f0, d_Calendar___init__ := _, F_Calendar___init__ := (show FunD K "__init__" "Calendar.__init__" (defArgs s_Calendar___init__) (defBody s_Calendar___init__) (defScope s_Calendar___init__) [(.ref eD_Calendar___init___0), (.int 1), (.int 1), (.ref eD_Calendar___init___3)] [] _ _ from ⟨⟨_, _, _, _, _, _, _, _, _, _, rfl, l0, c0, .inr ⟨by simp, _, _, [Value.ref eD_Calendar___init___0, Value.int 1 t0_1, Value.int 1 t0_2, Value.ref eD_Calendar___init___3], _, rfl, t0, rfl, by repeat (first | exact .nil | refine .cons ⟨_, rfl⟩ ?_ | refine .cons rfl ?_)⟩, .inl rfl⟩, k0⟩), b_Calendar___init__ := (by obtain ⟨ds, rv, bb⟩ := (show FunD K "__init__" "Calendar.__init__" (defArgs s_Calendar___init__) (defBody s_Calendar___init__) (defScope s_Calendar___init__) [(.ref eD_Calendar___init___0), (.int 1), (.int 1), (.ref eD_Calendar___init___3)] [] _ _ from ⟨⟨_, _, _, _, _, _, _, _, _, _, rfl, l0, c0, .inr ⟨by simp, _, _, [Value.ref eD_Calendar___init___0, Value.int 1 t0_1, Value.int 1 t0_2, Value.ref eD_Calendar___init___3], _, rfl, t0, rfl, by repeat (first | exact .nil | refine .cons ⟨_, rfl⟩ ?_ | refine .cons rfl ?_)⟩, .inl rfl⟩, k0⟩).binds1 (ps := ["self", "few", "start", "period", "rests"]) 5 4 (by simp) rfl (fun _ _ _ _ _ _ _ us its hl hi => match us, its, hl, hi with | [_, _, _, _, _], [_, _, _, _], _, _ => ⟨_, rfl, rfl⟩); cases rv; exact bb), k_Calendar___init__ := k0,
    D_Calendar___init__ := (show FunD K "__init__" "Calendar.__init__" (defArgs s_Calendar___init__) (defBody s_Calendar___init__) (defScope s_Calendar___init__) [(.ref eD_Calendar___init___0), (.int 1), (.int 1), (.ref eD_Calendar___init___3)] [] _ _ from ⟨⟨_, _, _, _, _, _, _, _, _, _, rfl, l0, c0, .inr ⟨by simp, _, _, [Value.ref eD_Calendar___init___0, Value.int 1 t0_1, Value.int 1 t0_2, Value.ref eD_Calendar___init___3], _, rfl, t0, rfl, by repeat (first | exact .nil | refine .cons ⟨_, rfl⟩ ?_ | refine .cons rfl ?_)⟩, .inl rfl⟩, k0⟩).binds1 (ps := ["self", "few", "start", "period", "rests"]) 1 0 (by simp) rfl (fun _ _ _ _ _ _ _ us its hl hi => match us, its, hl, hi with | [_], [_, _, _, _], _, _ => ⟨_, rfl, rfl⟩),
    D1_Calendar___init__ := (show FunD K "__init__" "Calendar.__init__" (defArgs s_Calendar___init__) (defBody s_Calendar___init__) (defScope s_Calendar___init__) [(.ref eD_Calendar___init___0), (.int 1), (.int 1), (.ref eD_Calendar___init___3)] [] _ _ from ⟨⟨_, _, _, _, _, _, _, _, _, _, rfl, l0, c0, .inr ⟨by simp, _, _, [Value.ref eD_Calendar___init___0, Value.int 1 t0_1, Value.int 1 t0_2, Value.ref eD_Calendar___init___3], _, rfl, t0, rfl, by repeat (first | exact .nil | refine .cons ⟨_, rfl⟩ ?_ | refine .cons rfl ?_)⟩, .inl rfl⟩, k0⟩).binds1 (ps := ["self", "few", "start", "period", "rests"]) 2 1 (by simp) rfl (fun _ _ _ _ _ _ _ us its hl hi => match us, its, hl, hi with | [_, _], [_, _, _, _], _, _ => ⟨_, rfl, rfl⟩),
    D2_Calendar___init__ := (show FunD K "__init__" "Calendar.__init__" (defArgs s_Calendar___init__) (defBody s_Calendar___init__) (defScope s_Calendar___init__) [(.ref eD_Calendar___init___0), (.int 1), (.int 1), (.ref eD_Calendar___init___3)] [] _ _ from ⟨⟨_, _, _, _, _, _, _, _, _, _, rfl, l0, c0, .inr ⟨by simp, _, _, [Value.ref eD_Calendar___init___0, Value.int 1 t0_1, Value.int 1 t0_2, Value.ref eD_Calendar___init___3], _, rfl, t0, rfl, by repeat (first | exact .nil | refine .cons ⟨_, rfl⟩ ?_ | refine .cons rfl ?_)⟩, .inl rfl⟩, k0⟩).binds1 (ps := ["self", "few", "start", "period", "rests"]) 3 2 (by simp) rfl (fun _ _ _ _ _ _ _ us its hl hi => match us, its, hl, hi with | [_, _, _], [_, _, _, _], _, _ => ⟨_, rfl, rfl⟩),
    D3_Calendar___init__ := (show FunD K "__init__" "Calendar.__init__" (defArgs s_Calendar___init__) (defBody s_Calendar___init__) (defScope s_Calendar___init__) [(.ref eD_Calendar___init___0), (.int 1), (.int 1), (.ref eD_Calendar___init___3)] [] _ _ from ⟨⟨_, _, _, _, _, _, _, _, _, _, rfl, l0, c0, .inr ⟨by simp, _, _, [Value.ref eD_Calendar___init___0, Value.int 1 t0_1, Value.int 1 t0_2, Value.ref eD_Calendar___init___3], _, rfl, t0, rfl, by repeat (first | exact .nil | refine .cons ⟨_, rfl⟩ ?_ | refine .cons rfl ?_)⟩, .inl rfl⟩, k0⟩).binds1 (ps := ["self", "few", "start", "period", "rests"]) 4 3 (by simp) rfl (fun _ _ _ _ _ _ _ us its hl hi => match us, its, hl, hi with | [_, _, _, _], [_, _, _, _], _, _ => ⟨_, rfl, rfl⟩),
    E_Calendar___init___0 := fun H => .inr ⟨_, _, _, lD_Calendar___init___0, rfl, rfl, by show 0 ≤ sizeLine; decide, .nil⟩,
    E_Calendar___init___3 := fun H => .inr ⟨_, _, _, lD_Calendar___init___3, rfl, rfl, by show 0 ≤ sizeLine; decide, .nil⟩,
    M_Calendar := ⟨mk_Calendar, a0, i0, kc_Calendar⟩,
    a_Calendar___invert__ := f1, d_Calendar___invert__ := _, F_Calendar___invert__ := fun_mk (st := s_Calendar___invert__) l1 c1 k1, b_Calendar___invert__ := (fun_mk (st := s_Calendar___invert__) l1 c1 k1).binds (ps := ["self"]) (fun _ _ _ _ _ _ us hl => match us, hl with | [_], _ => rfl), k_Calendar___invert__ := k1,
    M_Calendar___invert__ := ⟨a1, i1, k1⟩,
    a_Calendar___eq__ := f2, d_Calendar___eq__ := _, F_Calendar___eq__ := fun_mk (st := s_Calendar___eq__) l2 c2 k2, b_Calendar___eq__ := (fun_mk (st := s_Calendar___eq__) l2 c2 k2).binds (ps := ["self", "other"]) (fun _ _ _ _ _ _ us hl => match us, hl with | [_, _], _ => rfl), k_Calendar___eq__ := k2,
    O_Calendar := ⟨a2, i2, nE_Calendar, mo_Calendar⟩,
    a_Calendar___and__ := f3, d_Calendar___and__ := _, F_Calendar___and__ := fun_mk (st := s_Calendar___and__) l3 c3 k3, b_Calendar___and__ := (fun_mk (st := s_Calendar___and__) l3 c3 k3).binds (ps := ["self", "other"]) (fun _ _ _ _ _ _ us hl => match us, hl with | [_, _], _ => rfl), k_Calendar___and__ := k3,
    M_Calendar___and__ := ⟨a3, i3, k3⟩,
    a_Calendar___or__ := f4, d_Calendar___or__ := _, F_Calendar___or__ := fun_mk (st := s_Calendar___or__) l4 c4 k4, b_Calendar___or__ := (fun_mk (st := s_Calendar___or__) l4 c4 k4).binds (ps := ["self", "other"]) (fun _ _ _ _ _ _ us hl => match us, hl with | [_, _], _ => rfl), k_Calendar___or__ := k4,
    M_Calendar___or__ := ⟨a4, i4, k4⟩,
    a_Calendar___sub__ := f5, d_Calendar___sub__ := _, F_Calendar___sub__ := fun_mk (st := s_Calendar___sub__) l5 c5 k5, b_Calendar___sub__ := (fun_mk (st := s_Calendar___sub__) l5 c5 k5).binds (ps := ["self", "other"]) (fun _ _ _ _ _ _ us hl => match us, hl with | [_, _], _ => rfl), k_Calendar___sub__ := k5,
    M_Calendar___sub__ := ⟨a5, i5, k5⟩,
    a_Calendar___xor__ := f6, d_Calendar___xor__ := _, F_Calendar___xor__ := fun_mk (st := s_Calendar___xor__) l6 c6 k6, b_Calendar___xor__ := (fun_mk (st := s_Calendar___xor__) l6 c6 k6).binds (ps := ["self", "other"]) (fun _ _ _ _ _ _ us hl => match us, hl with | [_, _], _ => rfl), k_Calendar___xor__ := k6,
    M_Calendar___xor__ := ⟨a6, i6, k6⟩,
    a_Calendar___str__ := f7, d_Calendar___str__ := _, F_Calendar___str__ := fun_mk (st := s_Calendar___str__) l7 c7 k7, b_Calendar___str__ := (fun_mk (st := s_Calendar___str__) l7 c7 k7).binds (ps := ["self"]) (fun _ _ _ _ _ _ us hl => match us, hl with | [_], _ => rfl), k_Calendar___str__ := k7,
    M_Calendar___str__ := ⟨a7, i7, k7⟩,
    A_KEPT_BY_AND := A_KEPT_BY_AND, m_KEPT_BY_AND := PySem.W.mg_of X G a_KEPT_BY_AND, D_KEPT_BY_AND := fun H => .tup (xs := [.ref A_KEPT_BY_AND0]) (.inr ⟨_, _, _, l_KEPT_BY_AND, rfl, rfl, by show 1 ≤ sizeLine; decide, by repeat (first | exact .nil | refine .cons rfl ?_ | refine .cons ⟨_, rfl⟩ ?_)⟩) (.cons (.tup (xs := [.bl true, .bl true]) (.inr ⟨_, _, _, ln_KEPT_BY_AND0, rfl, rfl, by show 2 ≤ sizeLine; decide, by repeat (first | exact .nil | refine .cons rfl ?_ | refine .cons ⟨_, rfl⟩ ?_)⟩) (.cons (.bl true) (.cons (.bl true) (.nil)))) (.nil)),
    A_KEPT_BY_OR := A_KEPT_BY_OR, m_KEPT_BY_OR := PySem.W.mg_of X G a_KEPT_BY_OR, D_KEPT_BY_OR := fun H => .tup (xs := [.ref A_KEPT_BY_OR0, .ref A_KEPT_BY_OR1, .ref A_KEPT_BY_OR2]) (.inr ⟨_, _, _, l_KEPT_BY_OR, rfl, rfl, by show 3 ≤ sizeLine; decide, by repeat (first | exact .nil | refine .cons rfl ?_ | refine .cons ⟨_, rfl⟩ ?_)⟩) (.cons (.tup (xs := [.bl true, .bl true]) (.inr ⟨_, _, _, ln_KEPT_BY_OR0, rfl, rfl, by show 2 ≤ sizeLine; decide, by repeat (first | exact .nil | refine .cons rfl ?_ | refine .cons ⟨_, rfl⟩ ?_)⟩) (.cons (.bl true) (.cons (.bl true) (.nil)))) (.cons (.tup (xs := [.bl true, .bl false]) (.inr ⟨_, _, _, ln_KEPT_BY_OR1, rfl, rfl, by show 2 ≤ sizeLine; decide, by repeat (first | exact .nil | refine .cons rfl ?_ | refine .cons ⟨_, rfl⟩ ?_)⟩) (.cons (.bl true) (.cons (.bl false) (.nil)))) (.cons (.tup (xs := [.bl false, .bl true]) (.inr ⟨_, _, _, ln_KEPT_BY_OR2, rfl, rfl, by show 2 ≤ sizeLine; decide, by repeat (first | exact .nil | refine .cons rfl ?_ | refine .cons ⟨_, rfl⟩ ?_)⟩) (.cons (.bl false) (.cons (.bl true) (.nil)))) (.nil)))),
    A_KEPT_BY_MINUS := A_KEPT_BY_MINUS, m_KEPT_BY_MINUS := PySem.W.mg_of X G a_KEPT_BY_MINUS, D_KEPT_BY_MINUS := fun H => .tup (xs := [.ref A_KEPT_BY_MINUS0]) (.inr ⟨_, _, _, l_KEPT_BY_MINUS, rfl, rfl, by show 1 ≤ sizeLine; decide, by repeat (first | exact .nil | refine .cons rfl ?_ | refine .cons ⟨_, rfl⟩ ?_)⟩) (.cons (.tup (xs := [.bl true, .bl false]) (.inr ⟨_, _, _, ln_KEPT_BY_MINUS0, rfl, rfl, by show 2 ≤ sizeLine; decide, by repeat (first | exact .nil | refine .cons rfl ?_ | refine .cons ⟨_, rfl⟩ ?_)⟩) (.cons (.bl true) (.cons (.bl false) (.nil)))) (.nil)),
    A_KEPT_BY_XOR := A_KEPT_BY_XOR, m_KEPT_BY_XOR := PySem.W.mg_of X G a_KEPT_BY_XOR, D_KEPT_BY_XOR := fun H => .tup (xs := [.ref A_KEPT_BY_XOR0, .ref A_KEPT_BY_XOR1]) (.inr ⟨_, _, _, l_KEPT_BY_XOR, rfl, rfl, by show 2 ≤ sizeLine; decide, by repeat (first | exact .nil | refine .cons rfl ?_ | refine .cons ⟨_, rfl⟩ ?_)⟩) (.cons (.tup (xs := [.bl true, .bl false]) (.inr ⟨_, _, _, ln_KEPT_BY_XOR0, rfl, rfl, by show 2 ≤ sizeLine; decide, by repeat (first | exact .nil | refine .cons rfl ?_ | refine .cons ⟨_, rfl⟩ ?_)⟩) (.cons (.bl true) (.cons (.bl false) (.nil)))) (.cons (.tup (xs := [.bl false, .bl true]) (.inr ⟨_, _, _, ln_KEPT_BY_XOR1, rfl, rfl, by show 2 ≤ sizeLine; decide, by repeat (first | exact .nil | refine .cons rfl ?_ | refine .cons ⟨_, rfl⟩ ?_)⟩) (.cons (.bl false) (.cons (.bl true) (.nil)))) (.nil))),
    a_is_whole := f8, d_is_whole := _, F_is_whole := fun_mk (st := s_is_whole) l8 c8 k8, b_is_whole := (fun_mk (st := s_is_whole) l8 c8 k8).binds (ps := ["value"]) (fun _ _ _ _ _ _ us hl => match us, hl with | [_], _ => rfl), k_is_whole := k8,
    m_is_whole := PySem.W.mg_of X G a8,
    a_is_sequence := f9, d_is_sequence := _, F_is_sequence := fun_mk (st := s_is_sequence) l9 c9 k9, b_is_sequence := (fun_mk (st := s_is_sequence) l9 c9 k9).binds (ps := ["value"]) (fun _ _ _ _ _ _ us hl => match us, hl with | [_], _ => rfl), k_is_sequence := k9,
    m_is_sequence := PySem.W.mg_of X G a9,
    a__is_from_1 := f10, d__is_from_1 := _, F__is_from_1 := fun_mk (st := s__is_from_1) l10 c10 k10, b__is_from_1 := (fun_mk (st := s__is_from_1) l10 c10 k10).binds (ps := ["value"]) (fun _ _ _ _ _ _ us hl => match us, hl with | [_], _ => rfl), k__is_from_1 := k10,
    m__is_from_1 := PySem.W.mg_of X G a10,
    a__are_between := f11, d__are_between := _, F__are_between := fun_mk (st := s__are_between) l11 c11 k11, b__are_between := (fun_mk (st := s__are_between) l11 c11 k11).binds (ps := ["values", "low", "end"]) (fun _ _ _ _ _ _ us hl => match us, hl with | [_, _, _], _ => rfl), k__are_between := k11,
    m__are_between := PySem.W.mg_of X G a11,
    a__ascending := f12, d__ascending := _, F__ascending := fun_mk (st := s__ascending) l12 c12 k12, b__ascending := (fun_mk (st := s__ascending) l12 c12 k12).binds (ps := ["values", "low", "end"]) (fun _ _ _ _ _ _ us hl => match us, hl with | [_, _, _], _ => rfl), k__ascending := k12,
    m__ascending := PySem.W.mg_of X G a12,
    a__least_period := f13, d__least_period := _, F__least_period := fun_mk (st := s__least_period) l13 c13 k13, b__least_period := (fun_mk (st := s__least_period) l13 c13 k13).binds (ps := ["period", "rests"]) (fun _ _ _ _ _ _ us hl => match us, hl with | [_, _], _ => rfl), k__least_period := k13,
    m__least_period := PySem.W.mg_of X G a13,
    a__least_start := f14, d__least_start := _, F__least_start := fun_mk (st := s__least_start) l14 c14 k14, b__least_start := (fun_mk (st := s__least_start) l14 c14 k14).binds (ps := ["few", "start", "period", "rests"]) (fun _ _ _ _ _ _ us hl => match us, hl with | [_, _, _, _], _ => rfl), k__least_start := k14,
    m__least_start := PySem.W.mg_of X G a14,
    a__merged := f15, d__merged := _, F__merged := fun_mk (st := s__merged) l15 c15 k15, b__merged := (fun_mk (st := s__merged) l15 c15 k15).binds (ps := ["one", "other", "kept"]) (fun _ _ _ _ _ _ us hl => match us, hl with | [_, _, _], _ => rfl), k__merged := k15,
    m__merged := PySem.W.mg_of X G a15,
    a__flags_of := f16, d__flags_of := _, F__flags_of := fun_mk (st := s__flags_of) l16 c16 k16, b__flags_of := (fun_mk (st := s__flags_of) l16 c16 k16).binds (ps := ["calendar", "end"]) (fun _ _ _ _ _ _ us hl => match us, hl with | [_, _], _ => rfl), k__flags_of := k16,
    m__flags_of := PySem.W.mg_of X G a16,
    a_calendar_from := f17, d_calendar_from := _, F_calendar_from := fun_mk (st := s_calendar_from) l17 c17 k17, b_calendar_from := (fun_mk (st := s_calendar_from) l17 c17 k17).binds (ps := ["flags", "period"]) (fun _ _ _ _ _ _ us hl => match us, hl with | [_, _], _ => rfl), k_calendar_from := k17,
    m_calendar_from := PySem.W.mg_of X G a17,
    a__text := f18, d__text := _, F__text := fun_mk (st := s__text) l18 c18 k18, b__text := (fun_mk (st := s__text) l18 c18 k18).binds (ps := ["few", "start", "period", "rests"]) (fun _ _ _ _ _ _ us hl => match us, hl with | [_, _, _, _], _ => rfl), k__text := k18,
    m__text := PySem.W.mg_of X G a18,
    a__spaced := f19, d__spaced := _, F__spaced := fun_mk (st := s__spaced) l19 c19 k19, b__spaced := (fun_mk (st := s__spaced) l19 c19 k19).binds (ps := ["numbers"]) (fun _ _ _ _ _ _ us hl => match us, hl with | [_], _ => rfl), k__spaced := k19,
    m__spaced := PySem.W.mg_of X G a19,
    a__law_box := f20, d__law_box := _, F__law_box := fun_mk (st := s__law_box) l20 c20 k20, b__law_box := (fun_mk (st := s__law_box) l20 c20 k20).binds (ps := ["_law_script", "_law_k"]) (fun _ _ _ _ _ _ us hl => match us, hl with | [_, _], _ => rfl), k__law_box := k20,
    m__law_box := PySem.W.mg_of X G a20,
    a__law_take := f21, d__law_take := _, F__law_take := fun_mk (st := s__law_take) l21 c21 k21, b__law_take := (fun_mk (st := s__law_take) l21 c21 k21).binds (ps := ["_law_box_here", "_law_many"]) (fun _ _ _ _ _ _ us hl => match us, hl with | [_, _], _ => rfl), k__law_take := k21,
    m__law_take := PySem.W.mg_of X G a21,
    a__law_pick := f22, d__law_pick := _, F__law_pick := fun_mk (st := s__law_pick) l22 c22 k22, b__law_pick := (fun_mk (st := s__law_pick) l22 c22 k22).binds (ps := ["_law_box_here", "_law_some"]) (fun _ _ _ _ _ _ us hl => match us, hl with | [_, _], _ => rfl), k__law_pick := k22,
    m__law_pick := PySem.W.mg_of X G a22,
    a__law_raw := f23, d__law_raw := _, F__law_raw := fun_mk (st := s__law_raw) l23 c23 k23, b__law_raw := (fun_mk (st := s__law_raw) l23 c23 k23).binds (ps := ["_law_box_here", "_law_far", "_law_wide"]) (fun _ _ _ _ _ _ us hl => match us, hl with | [_, _, _], _ => rfl), k__law_raw := k23,
    m__law_raw := PySem.W.mg_of X G a23,
    a__law_has := f24, d__law_has := _, F__law_has := fun_mk (st := s__law_has) l24 c24 k24, b__law_has := (fun_mk (st := s__law_has) l24 c24 k24).binds (ps := ["_law_raw_here", "_law_number"]) (fun _ _ _ _ _ _ us hl => match us, hl with | [_, _], _ => rfl), k__law_has := k24,
    m__law_has := PySem.W.mg_of X G a24,
    a__law_least_form := f25, d__law_least_form := _, F__law_least_form := fun_mk (st := s__law_least_form) l25 c25 k25, b__law_least_form := (fun_mk (st := s__law_least_form) l25 c25 k25).binds (ps := ["_law_raw_here"]) (fun _ _ _ _ _ _ us hl => match us, hl with | [_], _ => rfl), k__law_least_form := k25,
    m__law_least_form := PySem.W.mg_of X G a25,
    a__law_cal_text := f26, d__law_cal_text := _, F__law_cal_text := fun_mk (st := s__law_cal_text) l26 c26 k26, b__law_cal_text := (fun_mk (st := s__law_cal_text) l26 c26 k26).binds (ps := ["_law_form"]) (fun _ _ _ _ _ _ us hl => match us, hl with | [_], _ => rfl), k__law_cal_text := k26,
    m__law_cal_text := PySem.W.mg_of X G a26,
    a__law_cal_of := f27, d__law_cal_of := _, F__law_cal_of := fun_mk (st := s__law_cal_of) l27 c27 k27, b__law_cal_of := (fun_mk (st := s__law_cal_of) l27 c27 k27).binds (ps := ["_law_raw_here"]) (fun _ _ _ _ _ _ us hl => match us, hl with | [_], _ => rfl), k__law_cal_of := k27,
    m__law_cal_of := PySem.W.mg_of X G a27,
    a__law_common := f28, d__law_common := _, F__law_common := fun_mk (st := s__law_common) l28 c28 k28, b__law_common := (fun_mk (st := s__law_common) l28 c28 k28).binds (ps := ["_law_one", "_law_other"]) (fun _ _ _ _ _ _ us hl => match us, hl with | [_, _], _ => rfl), k__law_common := k28,
    m__law_common := PySem.W.mg_of X G a28,
    a__law_made_by := f29, d__law_made_by := _, F__law_made_by := fun_mk (st := s__law_made_by) l29 c29 k29, b__law_made_by := (fun_mk (st := s__law_made_by) l29 c29 k29).binds (ps := ["_law_one", "_law_other", "_law_is_in"]) (fun _ _ _ _ _ _ us hl => match us, hl with | [_, _, _], _ => rfl), k__law_made_by := k29,
    m__law_made_by := PySem.W.mg_of X G a29,
    a__law_near := f30, d__law_near := _, F__law_near := fun_mk (st := s__law_near) l30 c30 k30, b__law_near := (fun_mk (st := s__law_near) l30 c30 k30).binds (ps := ["_law_box_here", "_law_raw_here"]) (fun _ _ _ _ _ _ us hl => match us, hl with | [_, _], _ => rfl), k__law_near := k30,
    m__law_near := PySem.W.mg_of X G a30,
    a__law_dues := f31, d__law_dues := _, F__law_dues := fun_mk (st := s__law_dues) l31 c31 k31, b__law_dues := (fun_mk (st := s__law_dues) l31 c31 k31).binds (ps := ["_law_one", "_law_other"]) (fun _ _ _ _ _ _ us hl => match us, hl with | [_, _], _ => rfl), k__law_dues := k31,
    tc__law_dues := tc__law_dues, tp__law_dues := tp__law_dues, cd__law_dues := code_tab a31 l31 tb__law_dues,
    m__law_dues := PySem.W.mg_of X G a31,
    a_law := fa, d_law := _, F_law := fun_mk (st := s_law) l32 c32 k32, b_law := (fun_mk (st := s_law) l32 c32 k32).binds (ps := ["_law_script"]) (fun _ _ _ _ _ _ us hl => match us, hl with | [_], _ => rfl), k_law := k32,
    tc_law := tc_law, tp_law := tp_law, cd_law := code_tab a32 l32 tb_law,
    m_law := PySem.W.mg_of X G a32,
    td__law_dues_law := td__law_dues_law,
    m_lcm := PySem.W.mg_of X G aM_lcm,
    z_abs := PySem.W.mg_none_of X G z_abs, z_all := PySem.W.mg_none_of X G z_all, z_bool := PySem.W.mg_none_of X G z_bool, z_int := PySem.W.mg_none_of X G z_int, z_isinstance := PySem.W.mg_none_of X G z_isinstance, z_len := PySem.W.mg_none_of X G z_len, z_list := PySem.W.mg_none_of X G z_list, z_max := PySem.W.mg_none_of X G z_max, z_min := PySem.W.mg_none_of X G z_min, z_range := PySem.W.mg_none_of X G z_range, z_set := PySem.W.mg_none_of X G z_set, z_sorted := PySem.W.mg_none_of X G z_sorted, z_str := PySem.W.mg_none_of X G z_str, z_tuple := PySem.W.mg_none_of X G z_tuple, z_zip := PySem.W.mg_none_of X G z_zip }
  refine ⟨PySem.W.fnOf "law" "law" (defArgs s_law) (defBody s_law) (defScope s_law) .none kV32 dc32 pm32 an32 cd32 ct32, [(tc__law_dues, tp__law_dues), (tc_law, tp_law)], spLaw K (tabsT T), ?_, ?_, ?_, fun s v => .of_eq rfl, fun H a ns hl _ hH hS => ⟨a, ns, rfl, hS, hl, ?_, fun _ => rfl⟩, fun base _ _ hTB => ok_law T (hTB (tc__law_dues, tp__law_dues) (by simp)) (hTB (tc_law, tp_law) (by simp))⟩
  · intro p hp
    simp only [List.mem_cons, List.not_mem_nil, or_false] at hp
    rcases hp with rfl | rfl
    · exact (TA "_law_dues" (by simp) _ _ tb__law_dues).2
    · exact (TA "law" (by simp) _ _ tb_law).2
  · intro p hp
    simp only [List.mem_cons, List.not_mem_nil, or_false] at hp
    rcases hp with rfl | rfl
    · exact tn__law_dues
    · exact tn_law
  · intro p hp
    simp only [List.mem_cons, List.not_mem_nil, or_false] at hp
    rcases hp with rfl | rfl
    · exact (TA "_law_dues" (by simp) _ _ tb__law_dues).1
    · exact (TA "law" (by simp) _ _ tb_law).1
  · intro p hp
    simp only [tabsT, List.mem_cons, List.not_mem_nil, or_false] at hp
    rcases hp with rfl | rfl
    · exact NdefX.TabN.nil (hH (tc__law_dues, tp__law_dues) (by simp))
    · exact NdefX.TabN.nil (hH (tc_law, tp_law) (by simp))
end K32
open PySem PySem.W PyProof.Rows
set_option maxHeartbeats 0 in
theorem PySem.Challenge.cw_ringsums_k32_signs_of_calendars_holds : PySem.Challenge.rw_ringsums_k32_signs_of_calendars.Holds := by
  w_on; o_law; k_head; (case hw => w_witness2)
  k_fill
  refine Rs.walk_tabs (l := PySem.Challenge.rw_ringsums_k32_signs_of_calendars) (n := 63) (k := 11) (x := "_law_script") (CX := fun _ => L2.CX0) ["_law_dues", "law"] rfl (by decide) rfl ⟨rfl, by decide, by decide⟩ (by first | rfl | decide +kernel) (fun w h Y => PySem.W.km_in_of Y) ?F (fun _ _ _ _ _ h => h)
  case F =>
    intro w mg fa h _ KX G hmg TA
    refine' K32.all_mk KX G hmg TA ?aC_Calendar ?pg_Calendar ?hd_Calendar ?po_Calendar ?sa_Calendar ?mk_Calendar ?kc_Calendar ?n_period_Calendar ?n_rests_Calendar ?n_start_Calendar ?n_few_Calendar ?sf_Calendar ?m2_Calendar ?iq_Calendar_and ?io_Calendar_and ?iq_Calendar_or ?io_Calendar_or ?iq_Calendar_sub ?io_Calendar_sub ?iq_Calendar_xor ?io_Calendar_xor ?cl_Calendar ?tC_Calendar ?ca_Calendar ?mo_Calendar ?nE_Calendar ?mo_N_Calendar ?mo_S_Calendar ?mo_T_Calendar ?mo_L_Calendar ?mo_I_Calendar ?t0 ?l0 ?c0 ?k0 ?lD_Calendar___init___0 ?lD_Calendar___init___3 ?a0 ?i0 ?l1 ?c1 ?k1 ?a1 ?i1 ?l2 ?c2 ?k2 ?a2 ?i2 ?l3 ?c3 ?k3 ?a3 ?i3 ?l4 ?c4 ?k4 ?a4 ?i4 ?l5 ?c5 ?k5 ?a5 ?i5 ?l6 ?c6 ?k6 ?a6 ?i6 ?l7 ?c7 ?k7 ?a7 ?i7 ?spec ?takes ?a_KEPT_BY_AND ?l_KEPT_BY_AND ?ln_KEPT_BY_AND0 ?a_KEPT_BY_OR ?l_KEPT_BY_OR ?ln_KEPT_BY_OR0 ?ln_KEPT_BY_OR1 ?ln_KEPT_BY_OR2 ?a_KEPT_BY_MINUS ?l_KEPT_BY_MINUS ?ln_KEPT_BY_MINUS0 ?a_KEPT_BY_XOR ?l_KEPT_BY_XOR ?ln_KEPT_BY_XOR0 ?ln_KEPT_BY_XOR1 ?l8 ?c8 ?k8 ?a8 ?l9 ?c9 ?k9 ?a9 ?l10 ?c10 ?k10 ?a10 ?l11 ?c11 ?k11 ?a11 ?l12 ?c12 ?k12 ?a12 ?l13 ?c13 ?k13 ?a13 ?l14 ?c14 ?k14 ?a14 ?l15 ?c15 ?k15 ?a15 ?l16 ?c16 ?k16 ?a16 ?l17 ?c17 ?k17 ?a17 ?l18 ?c18 ?k18 ?a18 ?l19 ?c19 ?k19 ?a19 ?l20 ?c20 ?k20 ?a20 ?l21 ?c21 ?k21 ?a21 ?l22 ?c22 ?k22 ?a22 ?l23 ?c23 ?k23 ?a23 ?l24 ?c24 ?k24 ?a24 ?l25 ?c25 ?k25 ?a25 ?l26 ?c26 ?k26 ?a26 ?l27 ?c27 ?k27 ?a27 ?l28 ?c28 ?k28 ?a28 ?l29 ?c29 ?k29 ?a29 ?l30 ?c30 ?k30 ?a30 ?l31 ?c31 ?k31 ?a31 ?tb__law_dues ?tn__law_dues ?l32 ?c32 ?k32 ?a32 ?tb_law ?tn_law ?td__law_dues_law ?z_abs ?z_all ?z_bool ?z_int ?z_isinstance ?z_len ?z_list ?z_max ?z_min ?z_range ?z_set ?z_sorted ?z_str ?z_tuple ?z_zip ?aM_lcm
    (case aC_Calendar => k_is)
    (case a_KEPT_BY_AND => k_is)
    (case a_KEPT_BY_OR => k_is)
    (case a_KEPT_BY_MINUS => k_is)
    (case a_KEPT_BY_XOR => k_is)
    (case a0 => k_is)
    (case a1 => k_is)
    (case a2 => k_is)
    (case a3 => k_is)
    (case a4 => k_is)
    (case a5 => k_is)
    (case a6 => k_is)
    (case a7 => k_is)
    (case a8 => k_is)
    (case a9 => k_is)
    (case a10 => k_is)
    (case a11 => k_is)
    (case a12 => k_is)
    (case a13 => k_is)
    (case a14 => k_is)
    (case a15 => k_is)
    (case a16 => k_is)
    (case a17 => k_is)
    (case a18 => k_is)
    (case a19 => k_is)
    (case a20 => k_is)
    (case a21 => k_is)
    (case a22 => k_is)
    (case a23 => k_is)
    (case a24 => k_is)
    (case a25 => k_is)
    (case a26 => k_is)
    (case a27 => k_is)
    (case a28 => k_is)
    (case a29 => k_is)
    (case a30 => k_is)
    (case a31 => k_is)
    (case a32 => k_is)
    (case l0 => k_is)
    (case l1 => k_is)
    (case l2 => k_is)
    (case l3 => k_is)
    (case l4 => k_is)
    (case l5 => k_is)
    (case l6 => k_is)
    (case l7 => k_is)
    (case l_KEPT_BY_AND => k_is)
    (case l_KEPT_BY_OR => k_is)
    (case l_KEPT_BY_MINUS => k_is)
    (case l_KEPT_BY_XOR => k_is)
    (case l8 => k_is)
    (case l9 => k_is)
    (case l10 => k_is)
    (case l11 => k_is)
    (case l12 => k_is)
    (case l13 => k_is)
    (case l14 => k_is)
    (case l15 => k_is)
    (case l16 => k_is)
    (case l17 => k_is)
    (case l18 => k_is)
    (case l19 => k_is)
    (case l20 => k_is)
    (case l21 => k_is)
    (case l22 => k_is)
    (case l23 => k_is)
    (case l24 => k_is)
    (case l25 => k_is)
    (case l26 => k_is)
    (case l27 => k_is)
    (case l28 => k_is)
    (case l29 => k_is)
    (case l30 => k_is)
    (case l31 => k_is)
    (case l32 => k_is)
    (case pg_Calendar => k_is)
    (case hd_Calendar => k_is)
    (case po_Calendar => k_is)
    (case sa_Calendar => k_is)
    (case mk_Calendar => k_is)
    (case kc_Calendar => k_is)
    (case n_period_Calendar => k_is)
    (case n_rests_Calendar => k_is)
    (case n_start_Calendar => k_is)
    (case n_few_Calendar => k_is)
    (case sf_Calendar => k_is)
    (case m2_Calendar => first | rfl | decide +kernel)
    (case iq_Calendar_and => k_is)
    (case io_Calendar_and => k_is)
    (case iq_Calendar_or => k_is)
    (case io_Calendar_or => k_is)
    (case iq_Calendar_sub => k_is)
    (case io_Calendar_sub => k_is)
    (case iq_Calendar_xor => k_is)
    (case io_Calendar_xor => k_is)
    (case cl_Calendar => first | rfl | k_is)
    (case tC_Calendar => first | rfl | k_is)
    (case ca_Calendar => k_is)
    (case mo_Calendar => first | rfl | k_is)
    (case nE_Calendar => k_is)
    (case mo_N_Calendar => first | rfl | k_is)
    (case mo_S_Calendar => first | rfl | k_is)
    (case mo_T_Calendar => first | rfl | k_is)
    (case mo_L_Calendar => first | rfl | k_is)
    (case mo_I_Calendar => first | rfl | k_is)
    (case t0 => first | rfl | k_is)
    (case c0 => k_is)
    (case k0 => k_is)
    (case i0 => k_is)
    (case c1 => k_is)
    (case k1 => k_is)
    (case i1 => k_is)
    (case c2 => k_is)
    (case k2 => k_is)
    (case i2 => k_is)
    (case c3 => k_is)
    (case k3 => k_is)
    (case i3 => k_is)
    (case c4 => k_is)
    (case k4 => k_is)
    (case i4 => k_is)
    (case c5 => k_is)
    (case k5 => k_is)
    (case i5 => k_is)
    (case c6 => k_is)
    (case k6 => k_is)
    (case i6 => k_is)
    (case c7 => k_is)
    (case k7 => k_is)
    (case i7 => k_is)
    (case spec => first | rfl | k_is)
    (case takes => first | rfl | k_is)
    (case c8 => k_is)
    (case k8 => k_is)
    (case c9 => k_is)
    (case k9 => k_is)
    (case c10 => k_is)
    (case k10 => k_is)
    (case c11 => k_is)
    (case k11 => k_is)
    (case c12 => k_is)
    (case k12 => k_is)
    (case c13 => k_is)
    (case k13 => k_is)
    (case c14 => k_is)
    (case k14 => k_is)
    (case c15 => k_is)
    (case k15 => k_is)
    (case c16 => k_is)
    (case k16 => k_is)
    (case c17 => k_is)
    (case k17 => k_is)
    (case c18 => k_is)
    (case k18 => k_is)
    (case c19 => k_is)
    (case k19 => k_is)
    (case c20 => k_is)
    (case k20 => k_is)
    (case c21 => k_is)
    (case k21 => k_is)
    (case c22 => k_is)
    (case k22 => k_is)
    (case c23 => k_is)
    (case k23 => k_is)
    (case c24 => k_is)
    (case k24 => k_is)
    (case c25 => k_is)
    (case k25 => k_is)
    (case c26 => k_is)
    (case k26 => k_is)
    (case c27 => k_is)
    (case k27 => k_is)
    (case c28 => k_is)
    (case k28 => k_is)
    (case c29 => k_is)
    (case k29 => k_is)
    (case c30 => k_is)
    (case k30 => k_is)
    (case c31 => k_is)
    (case k31 => k_is)
    (case c32 => k_is)
    (case k32 => k_is)
    (case z_abs => k_is)
    (case z_all => k_is)
    (case z_bool => k_is)
    (case z_int => k_is)
    (case z_isinstance => k_is)
    (case z_len => k_is)
    (case z_list => k_is)
    (case z_max => k_is)
    (case z_min => k_is)
    (case z_range => k_is)
    (case z_set => k_is)
    (case z_sorted => k_is)
    (case z_str => k_is)
    (case z_tuple => k_is)
    (case z_zip => k_is)
    (case aM_lcm => k_is)
    (case tb__law_dues => rfl)
    (case tb_law => rfl)
    (case lD_Calendar___init___0 => k_is)
    (case lD_Calendar___init___3 => k_is)
    (case ln_KEPT_BY_AND0 => k_is)
    (case ln_KEPT_BY_OR0 => k_is)
    (case ln_KEPT_BY_OR1 => k_is)
    (case ln_KEPT_BY_OR2 => k_is)
    (case ln_KEPT_BY_MINUS0 => k_is)
    (case ln_KEPT_BY_XOR0 => k_is)
    (case ln_KEPT_BY_XOR1 => k_is)
    (case tn__law_dues => rfl)
    (case tn_law => rfl)
    (case td__law_dues_law => decide)
