import PyProof.Rows.All
import Wide.All
import OpenK.AllK
import Wide.FinOn
import HandS.ForMost
import HandS.Wide
import HandS.Conv
import HandS.IsInst
import HandS.Walk
import HandS.TupAny
import HandS.TupMul
import HandS.TryOnly
import HandS.Style
import HandS.Flow
import HandS.Deep
import HandS.ForExc
import HandS.ExcInit
import HandS.ExcIs
import HandS.ExcField
import HandS.Defaults
import HandS.RaiseMore
import KE.KExcIs
import HandS.ExcValue
import PyProof.ReprRoads
import PyProof.CallFns
import HandS.OwnEq
import HandS.SlotsOwn
import PyProof.InstNe
import HandS.DictComp
import PyProof.Rows.FloatCmp
import KE.KOpsOwn
import OpenK.KMeth
import HandS.Property
import HandS.Gcd
import HandS.ListItems
import HandS.Zip
import HandS.GenList
import KE.GoesZip
import KE.KItemsList
import PyProof.ZipIter
import HandS.FStr
import HandS.Text
import KE.KCallOwn
import KE.KIntText
import PyProof.Rows.ReprOcc
import HandS.ExcOwn
import OpenK.KOps
import PySem.Challenge.RW_ringsums_k01_errors_and_what_they_keep
set_option Elab.async false
set_option linter.all false
set_option maxRecDepth 100000
set_option maxHeartbeats 4000000
namespace Rs
open PySem PySem.Spec PyProof.Rows L2

/-! ### what never changes: tuples, instances, their dicts -/
def frozen : HO → Prop
  | .tup _ => True
  | .ins _ _ _ => True
  | .own _ => True
  | .frz _ _ => True
  | _ => False
def Fz (H H' : Hp) : Prop := ∀ a o, frozen o → H a = some o → H' a = some o
theorem Fz.refl (H : Hp) : Fz H H := fun _ _ _ h => h
theorem Fz.trans {H H1 H2 : Hp} (a : Fz H H1) (b : Fz H1 H2) : Fz H H2 := fun x o f h => b x o f (a x o f h)
theorem Fz.of_same {H H' : Hp} (s : Same H H') : Fz H H' := fun a o _ h => s a o h
theorem same_new {H : Hp} {p : Addr} {o : HO} (h : H p = none) : Same H (upd H p o) := fun b x e => by
  rw [upd_ne (ne_of_none e h)]
  exact e
theorem Fz.new {H : Hp} {p : Addr} {o : HO} (h : H p = none) : Fz H (upd H p o) := Fz.of_same (same_new h)
theorem Fz.lst {H : Hp} {p : Addr} {xs : List V} {o : HO} (h : H p = some (.lst xs)) : Fz H (upd H p o) := fun a u f e => by
  have : a ≠ p := by
    rintro rfl
    rw [h] at e
    cases e
    exact f
  rw [upd_ne this]
  exact e

/-! ### data of tuples -/
mutual
inductive Dt (K : PySem.W.Frag) (H : Hp) : V → PyData → Prop
  | non : Dt K H .non .none
  | bl (b : Bool) : Dt K H (.bl b) (.bool b)
  | int (i : Int) : Dt K H (.int i) (.int i)
  | str (x : Str) : Dt K H (.str x) (.str x)
  | tup {a : Addr} {xs : List V} {ds : List PyData} : SqT K H a xs → DtAll K H xs ds → Dt K H (.ref a) (.tuple ds)
inductive DtAll (K : PySem.W.Frag) (H : Hp) : List V → List PyData → Prop
  | nil : DtAll K H [] []
  | cons {v : V} {vs : List V} {d : PyData} {ds : List PyData} : Dt K H v d → DtAll K H vs ds → DtAll K H (v :: vs) (d :: ds)
end
theorem Fz.sqT {K : PySem.W.Frag} {H H' : Hp} {a : Addr} {xs : List V} (e : Fz H H') (h : SqT K H a xs) : SqT K H' a xs := by
  rcases h with (h | ⟨o, h⟩) | h
  · exact .inl (.inl (e _ _ trivial h))
  · exact .inl (.inr ⟨o, e _ _ trivial h⟩)
  · exact .inr h
mutual
theorem Dt.mono {K : PySem.W.Frag} {H H' : Hp} (e : Fz H H') : ∀ {v : V} {d : PyData}, Dt K H v d → Dt K H' v d
  | _, _, .non => .non
  | _, _, .bl b => .bl b
  | _, _, .int i => .int i
  | _, _, .str x => .str x
  | _, _, .tup h hs => .tup (e.sqT h) (DtAll.mono e hs)
theorem DtAll.mono {K : PySem.W.Frag} {H H' : Hp} (e : Fz H H') : ∀ {v : List V} {d : List PyData}, DtAll K H v d → DtAll K H' v d
  | _, _, .nil => .nil
  | _, _, .cons h hs => .cons (h.mono e) (DtAll.mono e hs)
end
mutual
theorem Dt.dp {K : PySem.W.Frag} {H : Hp} : ∀ {v : V} {d : PyData}, Dt K H v d → Dp K H v d
  | _, _, .non => .non
  | _, _, .bl b => .bl b
  | _, _, .int i => .int i
  | _, _, .str x => .str x
  | _, _, .tup h hs => .tup h (DtAll.dp hs)
theorem DtAll.dp {K : PySem.W.Frag} {H : Hp} : ∀ {v : List V} {d : List PyData}, DtAll K H v d → DpAll K H v d
  | _, _, .nil => .nil
  | _, _, .cons h hs => .cons h.dp (DtAll.dp hs)
end
theorem DtAll.length {K : PySem.W.Frag} {H : Hp} : ∀ {v : List V} {d : List PyData}, DtAll K H v d → v.length = d.length
  | _, _, .nil => rfl
  | _, _, .cons _ hs => congrArg (· + 1) hs.length
theorem DtAll.append {K : PySem.W.Frag} {H : Hp} : ∀ {v w : List V} {d e : List PyData}, DtAll K H v d → DtAll K H w e → DtAll K H (v ++ w) (d ++ e)
  | _, _, _, _, .nil, k => k
  | _, _, _, _, .cons h hs, k => .cons h (hs.append k)
theorem DtAll.get {K : PySem.W.Frag} {H : Hp} : ∀ {v : List V} {d : List PyData} {i : Nat} {x : PyData}, DtAll K H v d → d[i]? = some x → ∃ y, v[i]? = some y ∧ Dt K H y x
  | _, _, i, x, .nil, e => by simp at e
  | _, _, 0, x, .cons h _, e => ⟨_, rfl, by
      have : _ = x := Option.some.inj e
      exact this ▸ h⟩
  | _, _, i + 1, x, .cons _ hs, e => by
    have e' := e
    simp only [List.getElem?_cons_succ] at e' ⊢
    exact hs.get e'
theorem DtAll.getV {K : PySem.W.Frag} {H : Hp} : ∀ {v : List V} {d : List PyData} {i : Nat} {y : V}, DtAll K H v d → v[i]? = some y → ∃ x, d[i]? = some x ∧ Dt K H y x
  | _, _, i, x, .nil, e => by simp at e
  | _, _, 0, x, .cons h _, e => ⟨_, rfl, by
      have : _ = x := Option.some.inj e
      exact this ▸ h⟩
  | _, _, i + 1, x, .cons _ hs, e => by
    have e' := e
    simp only [List.getElem?_cons_succ] at e' ⊢
    exact hs.getV e'

/-! ### the box of draws -/
structure BoxI (x y z : Int) : Prop where
  x0 : 0 ≤ x
  y1 : 1 ≤ y
  y2 : y ≤ 2147483629
def boxL (x y z : Int) : List V := [.int x, .int y, .int z]
def Box (H : Hp) (b : Addr) : Prop := ∃ x y z, H b = some (.lst (boxL x y z)) ∧ BoxI x y z
/-- all but the list at b is as it was -/
def But (b : Addr) (H H' : Hp) : Prop := ∀ a o, a ≠ b → H a = some o → H' a = some o
theorem But.refl (b : Addr) (H : Hp) : But b H H := fun _ _ _ h => h
theorem But.trans {b : Addr} {H H1 H2 : Hp} (x : But b H H1) (y : But b H1 H2) : But b H H2 := fun a o n h => y a o n (x a o n h)
theorem But.of_same {b : Addr} {H H' : Hp} (s : Same H H') : But b H H' := fun a o _ h => s a o h
theorem But.upd {b : Addr} {H H' : Hp} {o : HO} (s : But b H H') : But b H (upd H' b o) := fun a u n h => by
  rw [upd_ne n]
  exact s a u n h
theorem Box.same {b : Addr} {H H' : Hp} (x : Box H b) (s : Same H H') : Box H' b := by
  obtain ⟨x, y, z, h, i⟩ := x
  exact ⟨x, y, z, s _ _ h, i⟩
theorem Box.fz {b : Addr} {H H' : Hp} (x : Box H b) (s : But b H H') : Fz H H' := fun a o f h => by
  refine s a o ?_ h
  rintro rfl
  obtain ⟨x, y, z, h', i⟩ := x
  rw [h'] at h
  cases h
  exact f
theorem Box.ne_none {b p : Addr} {H : Hp} (x : Box H b) (h : H p = none) : p ≠ b := by
  rintro rfl
  obtain ⟨x, y, z, h', i⟩ := x
  rw [h] at h'
  cases h'
theorem ifB {b : Bool} {A B : Prop} (h1 : b = true → A) (h2 : b = false → B) : if b = true then A else B := by
  cases b with
  | true => rw [if_pos rfl]; exact h1 rfl
  | false => rw [if_neg Bool.false_ne_true]; exact h2 rfl
theorem ifD {c A B : Prop} [Decidable c] (h1 : c → A) (h2 : ¬ c → B) : if decide c = true then A else B := ifB (fun e => h1 (of_decide_eq_true e)) (fun e => h2 (of_decide_eq_false e))
theorem ifN {c A B : Prop} [Decidable c] (h1 : ¬ c → A) (h2 : c → B) : if (!decide c) = true then A else B := by
  by_cases h : c
  · rw [decide_eq_true h]; exact h2 h
  · rw [decide_eq_false h]; exact h1 h
theorem ifT {b : Bool} {A B : Prop} (e : b = true) (h1 : A) : if b = true then A else B := by rw [if_pos e]; exact h1
theorem ifF {b : Bool} {A B : Prop} (e : b = false) (h1 : B) : if b = true then A else B := by rw [e, if_neg Bool.false_ne_true]; exact h1
theorem szL {n : Nat} (h : n ≤ 1000) : n ≤ sizeLine := Nat.le_trans h (by decide)
theorem szl {n : Nat} (h : n ≤ 1000) : n < sizeLine := Nat.lt_of_le_of_lt h (by decide)
theorem atI_ok {xs : List V} {i : Int} {j : Nat} {v : V} (h0 : 0 ≤ i) (e : i.toNat = j) (h : xs[j]? = some v) : atI xs i = some v := at_of (by omega) h
theorem ints_at {ns : List Int} {k : Int} (h0 : 0 ≤ k) (h1 : k < ns.length) : ∃ z, atI (ns.map V.int) k = some (.int z) := by
  have h2 : k.toNat < ns.length := by omega
  exact ⟨ns[k.toNat], atI_ok h0 rfl (by rw [List.getElem?_map, List.getElem?_eq_getElem h2]; rfl)⟩
theorem range_succ_map {α : Type} (f : Nat → α) (i : Nat) : (List.range (i + 1)).map f = (List.range i).map f ++ [f i] := by
  rw [List.range_succ, List.map_append]; rfl
theorem DtAll.snoc {K : PySem.W.Frag} {H : Hp} {v : List V} {d : List PyData} {x : V} {y : PyData} (h : DtAll K H v d) (k : Dt K H x y) : DtAll K H (v ++ [x]) (d ++ [y]) := h.append (.cons k .nil)
theorem same_lst {H H' : Hp} {p : Addr} {o : HO} (s : Same H H') (n : H p = none) : Same H (upd H' p o) := fun a u e => by
  rw [upd_ne (ne_of_none e n)]
  exact s a u e
theorem natAbs_abs {i : Int} : 0 ≤ (if i < 0 then -i else i) := by split <;> omega
theorem pick2 (b : Bool) (u v : Int) : atI [.int u, .int v] (if b = true then 1 else 0) = some (V.int (if b = true then v else u)) := by
  cases b <;> rfl
theorem ite_ge0 {b : Bool} {u v : Int} (h1 : 0 ≤ u) (h2 : 0 ≤ v) : 0 ≤ (if b = true then v else u) := by cases b <;> assumption
theorem mem_at {xs : List V} {k : Int} (h0 : 0 ≤ k) (h1 : k < xs.length) : ∃ v, v ∈ xs ∧ atI xs k = some v := by
  have h2 : k.toNat < xs.length := by omega
  exact ⟨xs[k.toNat], List.getElem_mem h2, atI_ok h0 rfl (List.getElem?_eq_getElem h2)⟩
/-! reading tuples of data -/
def atD (ds : List PyData) (i : Int) : Option PyData := (ixN ds.length i).bind fun j => ds[j]?
theorem DtAll.at {K : PySem.W.Frag} {H : Hp} {xs : List V} {ds : List PyData} {i : Int} {d : PyData} (h : DtAll K H xs ds) (e : atD ds i = some d) : ∃ v, atI xs i = some v ∧ Dt K H v d := by
  unfold atD at e
  unfold atI
  rw [h.length]
  cases q : ixN ds.length i with
  | none => rw [q] at e; cases e
  | some j =>
    rw [q] at e
    exact h.get e
theorem rix_dt {K : PySem.W.Frag} {H : Hp} {v : V} {i : Int} {ds : List PyData} {d : PyData} {Q : VK} (h : Dt K H v (.tuple ds)) (e : atD ds i = some d) (q : ∀ y, Dt K H y d → Q y H) : rIxT K v (.int i) H Q := by
  cases h with
  | tup hs ha =>
    obtain ⟨y, h1, h2⟩ := ha.at e
    exact ⟨_, _, _, _, rfl, rfl, hs, h1, q y h2⟩
theorem Dt.int_eq {K : PySem.W.Frag} {H : Hp} {v : V} {i : Int} (h : Dt K H v (.int i)) : v = .int i := by cases h; rfl
theorem Dt.str_eq {K : PySem.W.Frag} {H : Hp} {v : V} {i : Str} (h : Dt K H v (.str i)) : v = .str i := by cases h; rfl
theorem atD_nat {ds : List PyData} {j : Nat} {d : PyData} (e : ds[j]? = some d) : atD ds ((j : Nat) : Int) = some d := by
  have h := (List.getElem?_eq_some_iff.mp e).1
  unfold atD ixN
  rw [if_pos (by omega), if_pos (by omega)]
  exact e
theorem atD_last {ds : List PyData} {d : PyData} (h : 0 < ds.length) (e : ds[ds.length - 1]? = some d) : atD ds (-1) = some d := by
  unfold atD ixN
  rw [if_neg (by omega), if_pos (by omega)]
  show ds[((-1 : Int) + ds.length).toNat]? = some d
  rw [show ((-1 : Int) + ds.length).toNat = ds.length - 1 by omega]
  exact e
def tyD : PyData → String
  | .none => "NoneType"
  | .bool _ => "bool"
  | .int _ => "int"
  | .str _ => "str"
  | .list _ => "list"
  | .tuple _ => "tuple"
  | .dict _ => "dict"
theorem sqT_ty {K : PySem.W.Frag} {H : Hp} {a : Addr} {xs : List V} (h : SqT K H a xs) : TyX K H (.ref a) (.type "tuple") := by
  rcases h with (h | ⟨o, h⟩) | ⟨o, its, n, h1, h2, _⟩
  · exact .base (.tup h)
  · exact .fTuple h
  · exact .kTuple h1 h2
theorem Dt.ty {K : PySem.W.Frag} {H : Hp} {v : V} {d : PyData} (h : Dt K H v d) : TyX K H v (.type (tyD d)) := by
  cases h with
  | non => exact .base .non
  | bl b => exact .base (.bl b)
  | int i => exact .base (.int i)
  | str x => exact .base (.str x)
  | tup h _ => exact sqT_ty h
theorem neF {a b : Int} (h : a = b) : (!decide (V.int a = V.int b)) = false := by rw [h]; simp
theorem Dt.len {K : PySem.W.Frag} {H : Hp} {a : Addr} {ds : List PyData} (h : Dt K H (.ref a) (.tuple ds)) : ∃ xs, SqT K H a xs ∧ xs.length = ds.length ∧ DtAll K H xs ds := by
  cases h with
  | tup h hs => exact ⟨_, h, hs.length, hs⟩

structure okD (k : Nat) (d : PyData) : Prop where
  lay : d.canLay0 = true
  dep : d.depth ≤ k
theorem okD.mono {k l : Nat} {d : PyData} (h : okD k d) (e : k ≤ l) : okD l d := ⟨h.lay, Nat.le_trans h.dep e⟩
theorem okD_all {k : Nat} : ∀ {ds : List PyData}, (∀ d ∈ ds, okD k d) → PyData.canLayAll0 ds = true ∧ PyData.depthAll ds ≤ k
  | [], _ => ⟨rfl, Nat.zero_le _⟩
  | d :: ds, h => by
    have h1 := h d List.mem_cons_self
    have h2 := okD_all (ds := ds) fun x hx => h x (List.mem_cons_of_mem _ hx)
    refine ⟨?_, ?_⟩
    · show (PyData.canLay0 d && PyData.canLayAll0 ds) = true
      rw [h1.lay, h2.1]; rfl
    · show max (PyData.depth d) (PyData.depthAll ds) ≤ k
      exact Nat.max_le.mpr ⟨h1.dep, h2.2⟩
theorem okD.tuple {k : Nat} {ds : List PyData} (h : ∀ d ∈ ds, okD k d) : okD (k + 1) (.tuple ds) :=
  have q := okD_all h
  ⟨q.1, Nat.succ_le_succ q.2⟩
theorem okD.list {k : Nat} {ds : List PyData} (h : ∀ d ∈ ds, okD k d) : okD (k + 1) (.list ds) :=
  have q := okD_all h
  ⟨q.1, Nat.succ_le_succ q.2⟩
theorem okD.shaped {k : Nat} {d : PyData} (h : okD k d) (hk : k ≤ 64) : SeqAt.shaped d = true := by
  unfold SeqAt.shaped
  rw [h.lay, decide_eq_true (Nat.le_trans h.dep hk)]; rfl
theorem eqv_self {k : Nat} {d : PyData} (h : okD k d) : PyData.eqv d d = true := SeqAt.eqv_refl d h.lay
theorem rne_dt {K : PySem.W.Frag} {H : Hp} {x y : V} {k : Nat} {d : PyData} {Q : VK} (hx : Dt K H x d) (hy : Dt K H y d) (o : okD k d) (hk : k ≤ 64) (q : Q (.bl false) H) : rNeD K x y H Q :=
  ⟨d, d, hx.dp, hy.dp, o.shaped hk, o.shaped hk, by rw [eqv_self o]; exact q⟩
theorem req_dt {K : PySem.W.Frag} {H : Hp} {x y : V} {k : Nat} {d : PyData} {Q : VK} (hx : Dt K H x d) (hy : Dt K H y d) (o : okD k d) (hk : k ≤ 64) (q : Q (.bl true) H) : rEqD K x y H Q :=
  ⟨d, d, hx.dp, hy.dp, o.shaped hk, o.shaped hk, by rw [eqv_self o]; exact q⟩

theorem atD0 {ds : List PyData} {d : PyData} (e : ds[0]? = some d) : atD ds 0 = some d := atD_nat (j := 0) e
theorem atD1 {ds : List PyData} {d : PyData} (e : ds[1]? = some d) : atD ds 1 = some d := atD_nat (j := 1) e
theorem atD2 {ds : List PyData} {d : PyData} (e : ds[2]? = some d) : atD ds 2 = some d := atD_nat (j := 2) e
theorem atD3 {ds : List PyData} {d : PyData} (e : ds[3]? = some d) : atD ds 3 = some d := atD_nat (j := 3) e
theorem atDi {ds : List PyData} {d : PyData} {i : Int} {j : Nat} (h : i = (j : Int)) (e : ds[j]? = some d) : atD ds i = some d := by
  subst h
  exact atD_nat e

theorem floor_step {a b n : Int} (h : 0 < n) : b / n ≤ (a + b) / n - a / n ∧ (a + b) / n - a / n ≤ b / n + 1 := by
  have ha := Int.emod_add_mul_ediv a n
  have hb := Int.emod_add_mul_ediv b n
  have a0 := Int.emod_nonneg a (show n ≠ 0 by omega)
  have a1 := Int.emod_lt_of_pos a h
  have b0 := Int.emod_nonneg b (show n ≠ 0 by omega)
  have b1 := Int.emod_lt_of_pos b h
  have e : (a + b) / n = a / n + b / n + (a % n + b % n) / n := by
    have : a + b = (a % n + b % n) + n * (a / n + b / n) := by rw [Int.mul_add]; omega
    rw [this, Int.add_mul_ediv_left _ _ (by omega), Int.add_comm]
  have q0 : 0 ≤ (a % n + b % n) / n := Int.ediv_nonneg (by omega) (by omega)
  have q1 : (a % n + b % n) / n < 2 := by
    apply Int.ediv_lt_of_lt_mul h
    omega
  omega

theorem take_snoc {α : Type} {l : List α} {i : Nat} {x : α} (h : l[i]? = some x) : l.take (i + 1) = l.take i ++ [x] := by
  rw [List.take_add_one, h]; rfl
theorem map_int_get {acc : List Int} {i : Nat} {x : V} (h : (acc.map V.int)[i]? = some x) : ∃ z, acc[i]? = some z ∧ x = .int z := by
  rw [List.getElem?_map] at h
  cases e : acc[i]? with
  | none => rw [e] at h; cases h
  | some z =>
    rw [e] at h
    exact ⟨z, rfl, (Option.some.inj h).symm⟩

theorem Dt.ix {K : PySem.W.Frag} {H : Hp} {v : V} {i : Int} {ds : List PyData} {d : PyData} (h : Dt K H v (.tuple ds)) (e : atD ds i = some d) : ∃ a xs y, v = .ref a ∧ SqT K H a xs ∧ atI xs i = some y ∧ Dt K H y d := by
  cases h with
  | tup hs ha =>
    obtain ⟨y, h1, h2⟩ := ha.at e
    exact ⟨_, _, _, rfl, hs, h1, h2⟩

/-! displays of data -/
def EvD (K : PySem.W.Frag) (te : TE) (σ : L2.St) (H : Hp) (d : PyData) : Prop := ∀ Q : VK, (∀ v H', Same H H' → Dt K H' v d → Q v H') → te σ H Q
def EvDs (K : PySem.W.Frag) (ta : TA) (σ : L2.St) (H : Hp) (ds : List PyData) : Prop := ∀ Q : List V → Hp → Prop, (∀ vs H', Same H H' → DtAll K H' vs ds → Q vs H') → ta σ H Q
section
variable {K : PySem.W.Frag} {σ : L2.St} {H : Hp}
theorem evd_int {i : Int} : EvD K (tC (.int i)) σ H (.int i) := fun _ q => q _ _ (Same.refl _) (.int i)
theorem evd_str {i : Str} : EvD K (tC (.str i)) σ H (.str i) := fun _ q => q _ _ (Same.refl _) (.str i)
theorem evd_non : EvD K (tC .non) σ H .none := fun _ q => q _ _ (Same.refl _) .non
theorem evd_bl {b : Bool} : EvD K (tC (.bl b)) σ H (.bool b) := fun _ q => q _ _ (Same.refl _) (.bl b)
theorem evd_nil : EvDs K tNil σ H [] := fun _ q => q _ _ (Same.refl _) .nil
theorem evd_cons {te : TE} {ta : TA} {d : PyData} {ds : List PyData} (h : EvD K te σ H d) (hr : ∀ H', EvDs K ta σ H' ds) : EvDs K (tCons te ta) σ H (d :: ds) := fun Q q =>
  h _ fun v H1 s1 d1 => hr H1 _ fun vs H2 s2 d2 => q _ _ (s1.trans s2) (.cons (d1.mono (Fz.of_same s2)) d2)
theorem evd_tup {ta : TA} {ds : List PyData} (h : EvDs K ta σ H ds) (hl : ds.length ≤ 1000) : EvD K (tTup ta) σ H (.tuple ds) := fun Q q =>
  h _ fun vs H1 s1 d1 => ⟨szL (by rw [d1.length]; exact hl), fun p hp => q _ _ (s1.trans (same_new hp)) (.tup (SqT.of upd_same) (d1.mono (Fz.new hp)))⟩
end
theorem same_but {b : Addr} {H H1 H2 : Hp} (s : Same H H1) (k : But b H1 H2) (n : H b = none) : Same H H2 := fun a o h => k a o (ne_of_none h n) (s a o h)

theorem rel_ref (a : Addr) : RelV (.ref a) (Value.ref a) := rfl
end Rs
/-! Own exceptions with a field; objects made within a try. -/
namespace Rs
open PySem PySem.Spec PyProof.Rows L2
/-! ### C(e, ..) where what its __init__ lets out is wished for at the caller's slots -/
section
variable {X : Cx} {CX : CXT} {k : Nat} {f C : Addr} {fd : FuncData} {ps : List Str} {sp : Sp} {E : L2.St → XK} {x : Str} {p pos : Pos} {e : Expr} {es : List Expr} {t : TA}
theorem run_makeS {pins : List (Addr × Obj)} {σ : L2.St} {H : Hp} {s : Shared} {Q : VK} {us : List Value} {vs : List V} (M : Mk X.K C f) (F : FnOk X.prog X.w X.K X.mg X.base CX k f fd ps sp) (hr : Room (k + 1) X.A) (hb : Binds X.K fd ps [])
    (hx : PassesAt CX X σ (E σ)) (I : Inv X pins σ H s) (r : Vals vs us)
    (pre : ∀ x dx, H x = none → H dx = none → dx ≠ x → sp (.ref x :: vs) (upd (upd H dx (.own x)) x (.ins C dx [])) (fun v H2 => v = .non ∧ Q (.ref x) H2) (E σ))
    (out : ∀ H1 s1 e s2, Inv X pins σ H1 s1 → L2.CX X.prog X.w X.stack H1 s1 (E σ) e s2 → X.xe e s2) (hCX : CX = L2.CX X.prog X.w) :
    wpAny (model X.prog X.w) X.A (call (.ref C) us) (EP X pins σ Q) X.xe s := by
  subst hCX
  have p0 := pre (s.heap.objs.size + 1) s.heap.objs.size (I.hok.fresh (Nat.le_succ _)) (I.hok.fresh (Nat.le_refl _)) (Nat.ne_of_lt (Nat.lt_succ_self _))
  have J := Inv.made (C := C) I
  have rel : Vals (V.ref (s.heap.objs.size + 1) :: vs) (Value.ref (s.heap.objs.size + 1) :: us) := .cons rfl r
  have n1 : (Value.ref (s.heap.objs.size + 1) :: us).length = ps.length := by rw [← rel.length]; exact F.len _ _ _ _ p0
  have bd := hb _ (Value.ref (s.heap.objs.size + 1) :: us) J.kIn (by rw [List.append_nil]; exact n1)
  rw [List.append_nil] at bd
  have ran := F.run _ X.stack _ _ ⟨Value.ref (s.heap.objs.size + 1) :: us, []⟩ _ _ _ (E σ) (hr.make C us []) (J.env0.make C us []) bd rel p0
  refine wpAny_call (make_map (f := f) I.kIn M.makes M.init (beq_iff_eq.mp M.fn) (codeAny_mono ran fun r s' got => ?_))
  cases r with
  | error e => exact out _ _ _ _ J got
  | ok fl =>
    cases fl with
    | next => exact got.elim
    | brk => exact got.elim
    | cont => exact got.elim
    | ret u =>
      obtain ⟨v, H', J2, rv, rfl, q⟩ := J.after got
      exact ⟨rv, .ref (s.heap.objs.size + 1), H', J2, rfl, q⟩
def tMakeS (C : Addr) (sp : Sp) (E : L2.St → XK) (t : TA) : TE := fun σ H Q => t σ H fun vs H1 => ∀ x dx, H1 x = none → H1 dx = none → dx ≠ x →
  sp (.ref x :: vs) (upd (upd H1 dx (.own x)) x (.ins C dx [])) (fun v H2 => v = .non ∧ Q (.ref x) H2) (E σ)
theorem pe_makeS {W : WX} (M : Mk X.K C f) (F : FnOk X.prog X.w X.K X.mg X.base (L2.CX X.prog X.w) k f fd ps sp) (hr : Room (k + 1) X.A) (hg : Gl X x) (hm : X.mg x = some (.ref C)) (hb : Binds X.K fd ps []) (tk : Takes X W)
    (ha : PA X (e :: es) t) (hdb : (x == ("__debug__" : Str)) = false := by decide) (he : starEach (e :: es) X.env = (false, eval e X.env) :: starEach es X.env := by rfl) (hpl : (backTo pos (starEach es X.env)).any (·.1) = false := by rfl) :
    PE X (.Call (.Name x p) (e :: es) [] pos) (tMakeS C sp (WE W) t) := by
  refine ⟨fun pins s σ H Q I h => wpAny_Call_Name_kw (ld_glob I hg hm ?_ hdb)⟩
  refine PySem.W.callWith_K (h₀ := X.base) I.ok.mod.kin M.kp (thn (ha.run pos pins s σ H _ I h) fun us s1 res => ?_) he hpl
  obtain ⟨vs, H1, I1, r, q⟩ := res
  exact ⟨I1.kIn, run_makeS M F hr hb (passAt tk σ) I1 r q (fun H1 s1 e s2 J c => tk e s2 (XE.of_call J (fun _ _ _ h => h) c)) rfl⟩
end
/-! ### isinstance of a caught exception that has a field -/
structure ExX (K : PySem.W.Frag) (C : Addr) : Prop where
  cl : (PySem.W.clsIn K C).isSome = true
  ga : PySem.W.findIn K (.ref C) "__getattribute__" = some (some (.builtin "BaseException.__getattribute__"))
  gg : PySem.W.findIn K (.ref C) "__getattr__" = some none
  sb : PySem.W.subIn K (.ref C) (.type "BaseException") = some true
  ca : PySem.W.findIn K (.ref C) "__class__" = some (some (.builtin "object.__class__"))
  sp : PySem.W.specialIn K (.builtin "object.__class__") "__get__" = some (some (.builtin "getset_descriptor.__get__"))
  tk : PySem.W.takesIn K (.builtin "object.__class__") = some true
  mo : PySem.W.mroIn K C (.type "object") = some true
section
variable {X : Cx} {pins : List (Addr × Obj)} {σ : L2.St} {H : Hp} {s : Shared} {a C : Addr} {oe : Obj} {cls : Value} {d : Option Addr} {pn : List (Addr × Obj)}
theorem caught_at (I : Inv (X.suite a ((a, oe) :: pn)) pins σ H s) (hz : Zc cls d oe) (hf : ∃ vs, oe.data = .fields vs) {dd : Addr} {fs : List (Str × V)} (ec : cls = .ref C) (ed : d = some dd) (hd : H dd = some (.xd fs)) :
    ∃ od, PySem.W.InstAt s.heap a oe C (some od) := by
  subst ec ed
  obtain ⟨here, _⟩ := I.pin (a, oe) (List.mem_append_left _ List.mem_cons_self)
  obtain ⟨vs, hv⟩ := hf
  obtain ⟨mA, ns, _⟩ := (show ObjOk X.prog X.w H s.heap dd (.xd fs) from I.hok dd _ hd)
  obtain ⟨od, ho, _⟩ := lookIn_ns ns
  exact ⟨od, here, hz.1, by unfold PySem.W.notCls; rw [hv] <;> rfl, by rw [hz.2]; exact ho⟩
def rIsX (K : PySem.W.Frag) (a : Addr) (cls : Value) (d : Option Addr) (C : Addr) : List V → Hp → VK → Prop := fun xs H Q => ∃ (c : V) (cv : Value) (b : Bool) (dd : Addr) (fs : List (Str × V)), xs = [.ref a, c] ∧ ClsV c cv ∧ cls = .ref C ∧ d = some dd ∧ H dd = some (.xd fs) ∧ PySem.W.kitOne K (.ref C) cv = some b ∧ Q (.bl b) H
theorem call_isX (T : ExX X.K C) (hz : Zc cls d oe) (hf : ∃ vs, oe.data = .fields vs) : CallR (X.suite a ((a, oe) :: pn)) (.builtin "isinstance") (rIsX X.K a cls d C) := by
  intro pins s σ H xs us Q I r h
  obtain ⟨c, cv, b, dd, fs, rfl, kc, ec, ed, hd, e, q⟩ := h
  obtain ⟨u1, u2, rfl, r1, r2⟩ := vals2 r
  obtain rfl := kc.eq r2
  cases (show u1 = Value.ref a from r1)
  obtain ⟨od, J⟩ := caught_at I hz hf ec ed hd
  exact PySem.W.kia_one (PySem.W.kitx_exc T.cl T.ga T.gg T.sb T.ca T.sp T.tk T.mo) I.kIn J e (fun z => nomatch z) fun tk => ⟨.bl b, H, I.tok tk, rfl, q⟩
def rIsXT (K : PySem.W.Frag) (a : Addr) (cls : Value) (d : Option Addr) (C : Addr) : List V → Hp → VK → Prop := fun xs H Q => ∃ (tp : Addr) (cs : List V) (ws : List Value) (b : Bool) (dd : Addr) (fs : List (Str × V)), xs = [.ref a, .ref tp] ∧ H tp = some (.tup cs) ∧ Paired ClsV cs ws ∧
  cls = .ref C ∧ d = some dd ∧ H dd = some (.xd fs) ∧ PySem.W.kitAny K (.ref C) ws = some b ∧ Q (.bl b) H
theorem call_isXT (T : ExX X.K C) (hz : Zc cls d oe) (hf : ∃ vs, oe.data = .fields vs) : CallR (X.suite a ((a, oe) :: pn)) (.builtin "isinstance") (rIsXT X.K a cls d C) := by
  intro pins s σ H xs us Q I r h
  obtain ⟨tp, cs, ws, b, dd, fs, rfl, hT, kc, ec, ed, hd, e, q⟩ := h
  obtain ⟨u1, u2, rfl, r1, r2⟩ := vals2 r
  cases (show u1 = Value.ref a from r1)
  cases (show u2 = Value.ref tp from r2)
  obtain ⟨od, J⟩ := caught_at I hz hf ec ed hd
  obtain ⟨_, its, rv, o, h1, h2, n, h3⟩ := (show ObjOk X.prog X.w H s.heap tp (.tup cs) from I.hok tp _ hT)
  obtain rfl := ClsV.all kc rv
  obtain ⟨oc, od', dt, sl⟩ := o
  simp only at h2 h3
  subst h2 h3
  exact PySem.W.kia_tup (PySem.W.kitx_exc T.cl T.ga T.gg T.sb T.ca T.sp T.tk T.mo) I.kIn J h1 e (fun z => nomatch z) fun tk => ⟨.bl b, H, I.tok tk, rfl, q⟩
end
/-! ### the promise of an __init__(self, word): self.word = word -/
def spExc (C : Addr) (f : Str) : Sp := fun vs H Q _ => ∃ (a : Addr) (v : V), vs = [.ref a, v] ∧ H a = some (exo a C none) ∧ ∀ dx, H dx = none → dx ≠ a → Q .non (upd (upd H dx (exd dx [(f, v)])) a (exo a C (some dx)))
/-- the heap behind an exception's making -/
theorem made_heap {H : Hp} {a dx : Addr} {o1 o2 o3 o : HO} (ha : H a = none) (ne : dx ≠ a) : upd (del (upd (upd (upd H a o1) dx o2) a o3) a) dx o = upd H dx o := by
  funext b
  by_cases h1 : b = dx
  · subst h1; rw [upd_same, upd_same]
  · rw [upd_ne h1, upd_ne h1]
    by_cases h2 : b = a
    · subst h2; rw [del_same, ha]
    · rw [del_ne h2, upd_ne h2, upd_ne h1, upd_ne h2]
/-- what C(v) asks, where C's __init__ keeps spExc: its dict is new, the rest as it was -/
theorem make_exc {C : Addr} {f : Str} {v : V} {σ : L2.St} {H : Hp} {Q : XK} (h : ∀ d, H d = none → Q (.ref C) (some d) (upd H d (.xd [(f, v)]))) : tMkO C (spExc C f) [] (tCons (tC v) tNil) σ H Q := by
  refine ⟨by show 1 ≤ 1000; decide, fun a ha => ⟨a, v, rfl, upd_same, fun dx hdx ne => ⟨rfl, dx, [(f, v)], upd_same, by rw [upd_ne ne, upd_same], ?_, ?_⟩⟩⟩
  · rw [upd_ne ne] at hdx
    exact hdx
  · rw [made_heap ha ne]
    exact h dx (by rw [upd_ne ne] at hdx; exact hdx)
end Rs
/-! An own class over IndexError whose __init__ is walked as a def and sets one field: OexC of HandS.ExcInit speaks of ValueError. -/
namespace Rs
open PySem PySem.Spec PyProof.Rows L2
/-- IndexError's line of classes -/
abbrev ieTail : List Value := [.type "IndexError", .type "LookupError", .type "Exception", .type "BaseException", .type "object"]
section
open PySem.Builtin PySem.Builtin.ObjectAttr PySem.W
theorem ie_passes (self : Value) (C : Addr) : refuseLoop self "__setattr__" (.ref C :: ieTail) = pure () := by
  rw [refuseLoop_ref]
  kernel_rfl
variable {prog : Program} {w : World} {A : Around} {R : Result → Shared → Prop} {hp : Heap} {g : Array GenState} {dr : Drawn} {tn : Nat} {os : OsState}
/-- self.name = v where self has no dict as yet -/
theorem osa_ie {K : Frag} {name : Str} {tk : Tok} {v : Value} {x C : Addr} {fv : Array Value} {cd : ClassData} (X : K.In hp) (there : hp.get? x = some { cls := .ref C, data := .fields fv }) (is : clsIn K C = some cd) (line : cd.mro = .ref C :: ieTail) (has : cd.hasDict = true)
    (free : findIn K (.ref C) name = some none)
    (go : ∀ h2 t2 dx, (∀ b o, b ≠ x → hp.get? b = some o → h2.get? b = some o) → hp.objs.size ≤ dx → dx ≠ x → h2.get? x = some { cls := .ref C, dict := some dx, data := .fields fv } → h2.Ns1 dx (fun y => if y = name then some v else none) →
      R (.ok (.ret .none)) ⟨h2, g, dr, t2, os⟩) : codeAny (model prog w) A (.call (.builtin "object.__setattr__") ⟨[.ref x, .str name tk, v], []⟩) R ⟨hp, g, dr, tn, os⟩ := by
  have J : InstAt hp x { cls := .ref C, data := .fields fv } C none := ⟨there, rfl, rfl, trivial⟩
  have xs : x ≠ hp.objs.size := Nat.ne_of_lt (Heap.lt_size there)
  have full : cd.mro.isEmpty = false := by rw [line]; rfl
  have obj : cd.mro.contains (.type "object") = true := by rw [line, List.contains_cons]; exact (Bool.or_eq_true _ _).mpr (.inr (by decide +kernel))
  have inst : Looks (model prog w) hp (isInstance (.ref x) (.type "object")) true :=
    J.type.andThen (looks_mroIn X (by unfold mroIn; rw [is, Option.bind_some, if_neg (by rw [full]; decide), obj]))
  refine codeAny_call_builtin PySem.F.store_object.slot.plain PySem.F.store_object.entry
    (@check_slot (model prog w) _ _ ⟨hp, g, dr, tn, os⟩ "object.__setattr__" "object" "__setattr__" (.ref x) [.str name tk, v] [] _ PySem.F.store_object.kind PySem.F.store_object.split inst (PySem.F.store_object.args (.ref x) (.str name tk) v) ?_)
  have mro : Looks (model prog w) hp (mroOf (.ref C)) cd.mro := (looks_clsIn X is).andThen .now
  have nobody : Looks (model prog w) hp (storeTaker? none) none := .now
  have data : Looks (model prog w) hp (classData C) cd := looks_clsIn X is
  rw [osa_eq, refuse_eq]
  refine wpAny_bind (wpAny_bind (J.type.at (wpAny_bind (mro.at ?_))))
  rw [line, ie_passes]
  refine wpAny_pure (wpAny_bind (J.type.at (wpAny_bind ((looks_findIn X free).at (wpAny_bind (nobody.at ?_))))))
  show wpAny _ _ (storeInOwnDict (.ref x) (.ref C) (.str name tk) name v false) _ _ _
  clear full obj mro line
  obtain ⟨nm, bs, mro, ns, qn, hd, sn, sb, ab, col, del⟩ := cd
  dsimp only at has
  subst has
  unfold storeInOwnDict
  unfold ownDictForStores
  repeat (first | with_reducible refine PySem.HandSPX.store_in_new ?_ ?_ | (with_reducible refine wpAny_loadPart_at there ?_) | (with_reducible refine data.at ?_) | wp_step)
  · exact ⟨_, #[], _, (Heap.get?_update_ne _ _ _ _ xs.symm).trans (Heap.get?_push_at rfl rfl), rfl, (fun e he => by simp at he), fun _ => rfl⟩
  · intro h2 t2 ns1 sb
    have there2 : (hp.push { cls := .type "dict", data := .dict #[] }).get? x = some { cls := .ref C, data := .fields fv } := Heap.get?_push_of_some _ there
    refine go h2 t2 hp.objs.size (fun b o nb ho => ?_) (Nat.le_refl _) xs.symm ((sb.2 x xs).trans (Heap.get?_update_self _ there2 rfl)) ns1
    exact (sb.2 b (Nat.ne_of_lt (Heap.lt_size ho))).trans ((Heap.get?_update_ne _ _ _ _ nb).trans (Heap.get?_push_of_some _ ho))
end
/-- what the written part says of such a class -/
structure OexI (K : PySem.W.Frag) (C : Addr) : Prop where
  cls : ∃ nm q N bs sn sub ab col dd k0 k1 k2 k3 k5, K.lookup C = some (excClassObj nm q C N bs ieTail true sn sub ab col dd k0 k1 k2 k3 k5 "IndexError.__new__")
  sa : PySem.W.findIn K (.ref C) "__setattr__" = some (some (.builtin "object.__setattr__"))
  ex : PySem.W.subIn K (.ref C) (.type "BaseException") = some true
  ty : PySem.W.typeIn K (.ref C) = some (.type "type")
  kp : PySem.W.keepIn K (.ref C) = true
section
variable {X : Cx} {pins : List (Addr × Obj)} {σ : L2.St} {H : Hp} {s : Shared} {a C : Addr} {f : Str} {y : V} {u : Value} {E : Value → Shared → Prop} {A : Around} {Q : Unit → Shared → Prop}
theorem ost_ie (T : OexI X.K C) (I : Inv X pins σ H s) (e : H a = some (exo a C none)) (free : PySem.W.findIn X.K (.ref C) f = some none) (ry : RelV y u)
    (go : ∀ dx s2, H dx = none → dx ≠ a → Inv X pins σ (upd (upd H dx (exd dx [(f, y)])) a (exo a C (some dx))) s2 → Q () s2) : wpAny (model X.prog X.w) A (setAttr (.ref a) f u) Q E s := by
  obtain ⟨nm, q, N, bs, sn, sub, ab, col, dd, k0, k1, k2, k3, k5, hC⟩ := T.cls
  have known : PySem.W.clsIn X.K C = some { name := nm, bases := bs, mro := .ref C :: ieTail, ns := N, qualname := q, hasDict := true, slotNames := sn, subclasses := sub, abstract := ab, collection := col, hasDel := false } := by
    unfold PySem.W.clsIn
    rw [hC]
  obtain ⟨t1, ho⟩ := exo_at I.hok e
  obtain ⟨hp, g, d, t, os⟩ := s
  refine PySem.W.set_plain I.kIn (ox := { cls := .ref C, dict := none, data := .fields #[.ref t1, .none, .none, .none, .bool false, .none] }) (od := none) ⟨ho, rfl, rfl, trivial⟩ T.sa
    (osa_ie I.kIn ho known rfl rfl free fun h2 tk2 dx kept new ne hx ns => ?_)
  have none2 : H dx = none := I.hok.fresh new
  have old : ∀ {b : Addr} {o : Obj}, hp.get? b = some o → b ≠ dx := fun {b o} z => Nat.ne_of_lt (Nat.lt_of_lt_of_le (Heap.lt_size z) new)
  have nota : ∀ {b : Addr}, H b = none → b ≠ a := fun {b} n z => by rw [z, e] at n; cases n
  have far : ∀ {b : Addr} {o : HO}, H b = some o → (∀ r, exo a C r ≠ o) → upd (upd H dx (exd dx [(f, y)])) a (exo a C (some dx)) b = some o := fun {b o} z n => by
    rw [upd_ne (fun w => by rw [w, e] at z; exact n none (Option.some.inj z)), upd_ne (ne_of_none z none2)]
    exact z
  have U : Un X.fs [] H (upd (upd H dx (exd dx [(f, y)])) a (exo a C (some dx))) hp h2 :=
    { keep := fun b o z n _ _ => kept b o (nota n) z
      slot := fun b o z n _ _ => ⟨o.slots, kept b o (nota n) z⟩
      free := fun b o z n _ => by rw [upd_ne (nota n), upd_ne (old z)]; exact n
      there := fun b o z _ => by
        by_cases hb : b = a
        · subst hb
          exact ⟨_, hx⟩
        · exact ⟨o, kept b o hb z⟩
      tups := fun b xs z => far z fun r => exo_tup
      frzs := fun b o v z => by
        rw [upd_ne (at_ne e z exo_frz), upd_ne (ne_of_none z none2)]
        exact z
      tbls := fun b ps z => ⟨#[], by rw [upd_ne (at_ne e z exo_tbl), upd_ne (ne_of_none z none2), z]; simp⟩ }
  refine go dx _ none2 ne (I.un (t' := tk2) U fun b o z => ?_)
  by_cases hb : b = a
  · subst hb
    rw [upd_same] at z
    cases z
    exact exo_ok hx
  rw [upd_ne hb] at z
  by_cases hd : b = dx
  · subst hd
    rw [upd_same] at z
    cases z
    exact exd_ok ns (relO_put (fs := []) ry fun _ => True.intro)
  rw [upd_ne hd] at z
  have way : ∀ {c : Addr} {o2 : HO}, H c = some o2 → c ≠ a → upd (upd H dx (exd dx [(f, y)])) a (exo a C (some dx)) c = some o2 := fun {c o2} hc nc => by
    rw [upd_ne nc, upd_ne (ne_of_none hc none2)]
    exact hc
  refine (I.hok b o z).stay (fun c v hc z2 => kept c v ?_ z2) (fun c hc => way hc (at_ne e hc exo_own)) fun c xs hc => way hc (at_ne e hc exo_tup)
  rcases hc with hc | hc
  · exact hc ▸ hb
  · exact at_ne e hc exo_own
end
section
variable {X : Cx} {o e : Expr} {es : List Expr} {to te : TE} {ta : TA} {f : Str} {p p' pos : Pos}
/-- self.f = e, the first field -/
def tOsi (K : PySem.W.Frag) (f : Str) (to te : TE) : TS := fun D σ H => te σ H fun y H1 => to σ H1 fun x H2 => ∃ a C : Addr, x = .ref a ∧ OexI K C ∧ PySem.W.findIn K (.ref C) f = some none ∧
  H2 a = some (exo a C none) ∧ ∀ dx, H2 dx = none → dx ≠ a → D.nx σ (upd (upd H2 dx (exd dx [(f, y)])) a (exo a C (some dx)))
theorem ps_osi (ho : PE X o to) (he : PE X e te) (hs : swapsWith e (some (.Attribute o f p')) pos.line X.env = pure false := by rfl) : PS X (.Assign [.Attribute o f p'] e pos) (tOsi X.K f to te) := by
  refine ⟨fun pins s σ H D I h => plainObj_wpAny_Assign_Attribute (thn (he.run pins s σ H _ I h) fun v s1 r1 => ?_) hs⟩
  obtain ⟨y, H1, I1, ry, q1⟩ := r1
  refine thn (ho.run pins s1 σ H1 _ I1 q1) fun u s2 r2 => ?_
  obtain ⟨x, H2, I2, rx, a, C, ex, T, free, ea, q⟩ := r2
  subst ex
  cases (show u = Value.ref a from rx)
  exact ost_ie T I2 ea free ry fun dx s3 n ne J => ⟨σ, _, J, q dx n ne⟩
/-- C(e, ..), C's own __init__ keeping sp -/
theorem pmk_oei {CX : CXT} {x : Str} {C fI : Addr} {k : Nat} {fd : FuncData} {ps : List Str} {sp : Sp} (T : OexI X.K C) (iC : PySem.W.findIn X.K (.ref C) "__init__" = some (some (.ref fI))) (tI : PySem.W.typeIn X.K (.ref fI) = some (.type "function"))
    (F : FnOk X.prog X.w X.K X.mg X.base CX k fI fd ps sp) (hr : Room (k + 1) X.A) (hb : Binds X.K fd ps []) (hx : Passes CX X (fun _ _ _ => False)) (hg : Gl X x) (hm : X.mg x = some (.ref C)) (ha : PA X (e :: es) ta)
    (hdb : (x == ("__debug__" : Str)) = false := by decide) (he : starEach (e :: es) X.env = (false, eval e X.env) :: starEach es X.env := by rfl) (hpl : (backTo pos (starEach es X.env)).any (·.1) = false := by rfl) : PMk X (.Call (.Name x p) (e :: es) [] pos) (tMkO C sp [] ta) := by
  intro pins s σ H Q I h
  obtain ⟨nm, q, N, bs, sn, sub, ab, col, dd, k0, k1, k2, k3, k5, hC⟩ := T.cls
  refine wpAny_Call_Name_kw (ld_glob I hg hm (PySem.W.callWith_K (h₀ := X.base) I.ok.mod.kin T.kp (thn (ha.run pos pins s σ H _ I h) fun us s1 res => ?_) he hpl) hdb)
  obtain ⟨vs, H1, I1, r1, hz, q1⟩ := res
  refine ⟨I1.kIn, ?_⟩
  show wpAny _ _ (call (.ref C) us) _ _ _
  obtain ⟨hp, g, dr, tk, os⟩ := s1
  have up : hp.objs.size ≤ hp.objs.size + 1 := Nat.le_succ _
  have want := q1 (hp.objs.size + 1) (I1.hok.fresh up)
  have kept : ∀ b o, hp.get? b = some o → ((hp.push (PySem.W.kdv_tup us)).push (PySem.HandSPX.excO C hp.objs.size)).get? b = some o := fun b o z => Heap.get?_push_of_some _ (Heap.get?_push_of_some _ z)
  have at1 : ((hp.push (PySem.W.kdv_tup us)).push (PySem.HandSPX.excO C hp.objs.size)).get? (hp.objs.size + 1) = some (PySem.HandSPX.excO C hp.objs.size) := by heap_get
  have J : Inv X pins σ (upd H1 (hp.objs.size + 1) (exo (hp.objs.size + 1) C none)) ⟨(hp.push (PySem.W.kdv_tup us)).push (PySem.HandSPX.excO C hp.objs.size), g, dr, tk, os⟩ := Inv.laid (t' := tk) I1 kept up (exo_ok at1)
  have rel : Vals (V.ref (hp.objs.size + 1) :: (vs ++ [])) (Value.ref (hp.objs.size + 1) :: us) := .cons rfl (by rw [List.append_nil]; exact r1)
  have n1 : (Value.ref (hp.objs.size + 1) :: us).length = ps.length := by rw [← rel.length]; exact F.len _ _ _ _ want
  have bd := hb _ (Value.ref (hp.objs.size + 1) :: us) J.kIn (by rw [List.append_nil]; exact n1)
  rw [List.append_nil] at bd
  have few : us.length ≤ sizeLine := by have e1 := r1.length; have e2 := sizeLine_eq; omega
  refine wpAny_call (PySem.HandSPX.call_own PySem.F.excBase_IndexError (fun _ => rfl) (I1.kIn _ _ hC) (PySem.W.looks_findIn I1.kIn iC) (fun self => PySem.W.bind_fn I1.kIn self tI) few
    (codeAny_mono (F.run _ X.stack _ _ ⟨Value.ref (hp.objs.size + 1) :: us, []⟩ _ _ _ (fun _ _ _ => False) (hr.make C us []) (J.env0.make C us []) bd rel want) fun r s2 got => ?_))
  cases r with
  | error er => exact hx pins σ _ _ er s2 J got
  | ok fl =>
    cases fl with
    | next => exact got.elim
    | brk => exact got.elim
    | cont => exact got.elim
    | ret u =>
      obtain ⟨v, H2, os2, bare2, un2, ok2, rv, ev, d, fs, ea, ed, hd1, q2⟩ := got
      subst ev
      obtain ⟨h2, g2, d2, t2, os3⟩ := s2
      exact ⟨rv, mk_end (raises_own T.ex T.ty) I1 up kept un2 ok2 os2 bare2 ea ed hd1 q2⟩
end
end Rs
/-! own exceptions as values: made, asked by isinstance, their field read -/
namespace Rs
open PySem PySem.Spec PyProof.Rows L2
section
variable {X : Cx} {CX : CXT} {k : Nat} {C fI : Addr} {fd : FuncData} {ps : List Str} {sp : Sp} {x : Str} {p pos : Pos} {e : Expr} {es : List Expr} {ta : TA}
def tExo (C : Addr) (sp : Sp) (t : TA) : TE := fun σ H Q => t σ H fun vs H1 => vs.length ≤ 1000 ∧ ∀ a, H1 a = none → sp (.ref a :: vs) (upd H1 a (exo a C none)) (fun v H2 => v = .non ∧ Q (.ref a) H2) (fun _ _ _ => False)
theorem pe_oex (T : OexC X.K C) (iC : PySem.W.findIn X.K (.ref C) "__init__" = some (some (.ref fI))) (tI : PySem.W.typeIn X.K (.ref fI) = some (.type "function"))
    (F : FnOk X.prog X.w X.K X.mg X.base CX k fI fd ps sp) (hr : Room (k + 1) X.A) (hb : Binds X.K fd ps []) (hx : Passes CX X (fun _ _ _ => False)) (hg : Gl X x) (hm : X.mg x = some (.ref C)) (ha : PA X (e :: es) ta)
    (hdb : (x == ("__debug__" : Str)) = false := by decide) (he : starEach (e :: es) X.env = (false, eval e X.env) :: starEach es X.env := by rfl) (hpl : (backTo pos (starEach es X.env)).any (·.1) = false := by rfl) :
    PE X (.Call (.Name x p) (e :: es) [] pos) (tExo C sp ta) := by
  refine ⟨fun pins s σ H Q I h => ?_⟩
  obtain ⟨nm, q, N, bs, bm, sn, sub, ab, col, dd, k0, k1, k2, k3, k5, hC, hbm⟩ := T.cls
  refine wpAny_Call_Name_kw (ld_glob I hg hm ?_ hdb)
  refine PySem.W.callWith_K (h₀ := X.base) I.ok.mod.kin T.kC (thn (ha.run pos pins s σ H _ I h) fun us s1 res => ?_) he hpl
  obtain ⟨vs, H1, I1, r1, hz, q1⟩ := res
  refine ⟨I1.kIn, ?_⟩
  show wpAny _ _ (call (.ref C) us) _ _ _
  obtain ⟨hp, g, dr, tk, os⟩ := s1
  have up : hp.objs.size ≤ hp.objs.size + 1 := Nat.le_succ _
  have want := q1 (hp.objs.size + 1) (I1.hok.fresh up)
  have kept : ∀ b o, hp.get? b = some o → ((hp.push (PySem.W.kdv_tup us)).push (PySem.HandSPX.excO C hp.objs.size)).get? b = some o := fun b o z => Heap.get?_push_of_some _ (Heap.get?_push_of_some _ z)
  have at1 : ((hp.push (PySem.W.kdv_tup us)).push (PySem.HandSPX.excO C hp.objs.size)).get? (hp.objs.size + 1) = some (PySem.HandSPX.excO C hp.objs.size) := by heap_get
  have J : Inv X pins σ (upd H1 (hp.objs.size + 1) (exo (hp.objs.size + 1) C none)) ⟨(hp.push (PySem.W.kdv_tup us)).push (PySem.HandSPX.excO C hp.objs.size), g, dr, tk, os⟩ := Inv.laid (t' := tk) I1 kept up (exo_ok at1)
  have rel : Vals (V.ref (hp.objs.size + 1) :: vs) (Value.ref (hp.objs.size + 1) :: us) := .cons rfl r1
  have n1 : (Value.ref (hp.objs.size + 1) :: us).length = ps.length := by rw [← rel.length]; exact F.len _ _ _ _ want
  have bd := hb _ (Value.ref (hp.objs.size + 1) :: us) J.kIn (by rw [List.append_nil]; exact n1)
  rw [List.append_nil] at bd
  have few : us.length ≤ sizeLine := by have e1 := r1.length; have e2 := sizeLine_eq; omega
  refine wpAny_call (PySem.HandSPX.call_own PySem.F.excBase_ValueError (fun Y => PySem.HandSPX.refsVE_contains Y bm hbm) (I1.kIn _ _ hC) (PySem.W.looks_findIn I1.kIn iC) (fun self => PySem.W.bind_fn I1.kIn self tI) few
    (codeAny_mono (F.run _ X.stack _ _ ⟨Value.ref (hp.objs.size + 1) :: us, []⟩ _ _ _ (fun _ _ _ => False) (hr.make C us []) (J.env0.make C us []) bd rel want) fun r s2 got => ?_))
  cases r with
  | error er => exact hx pins σ _ _ er s2 J got
  | ok fl =>
    cases fl with
    | next => exact got.elim
    | brk => exact got.elim
    | cont => exact got.elim
    | ret u =>
      obtain ⟨v, H2, J2, rv, ev, q2⟩ := J.after got
      subst ev
      exact ⟨rv, .ref (hp.objs.size + 1), H2, J2, rfl, q2⟩
theorem pe_oei (T : OexI X.K C) (iC : PySem.W.findIn X.K (.ref C) "__init__" = some (some (.ref fI))) (tI : PySem.W.typeIn X.K (.ref fI) = some (.type "function"))
    (F : FnOk X.prog X.w X.K X.mg X.base CX k fI fd ps sp) (hr : Room (k + 1) X.A) (hb : Binds X.K fd ps []) (hx : Passes CX X (fun _ _ _ => False)) (hg : Gl X x) (hm : X.mg x = some (.ref C)) (ha : PA X (e :: es) ta)
    (hdb : (x == ("__debug__" : Str)) = false := by decide) (he : starEach (e :: es) X.env = (false, eval e X.env) :: starEach es X.env := by rfl) (hpl : (backTo pos (starEach es X.env)).any (·.1) = false := by rfl) :
    PE X (.Call (.Name x p) (e :: es) [] pos) (tExo C sp ta) := by
  refine ⟨fun pins s σ H Q I h => ?_⟩
  obtain ⟨nm, q, N, bs, sn, sub, ab, col, dd, k0, k1, k2, k3, k5, hC⟩ := T.cls
  refine wpAny_Call_Name_kw (ld_glob I hg hm ?_ hdb)
  refine PySem.W.callWith_K (h₀ := X.base) I.ok.mod.kin T.kp (thn (ha.run pos pins s σ H _ I h) fun us s1 res => ?_) he hpl
  obtain ⟨vs, H1, I1, r1, hz, q1⟩ := res
  refine ⟨I1.kIn, ?_⟩
  show wpAny _ _ (call (.ref C) us) _ _ _
  obtain ⟨hp, g, dr, tk, os⟩ := s1
  have up : hp.objs.size ≤ hp.objs.size + 1 := Nat.le_succ _
  have want := q1 (hp.objs.size + 1) (I1.hok.fresh up)
  have kept : ∀ b o, hp.get? b = some o → ((hp.push (PySem.W.kdv_tup us)).push (PySem.HandSPX.excO C hp.objs.size)).get? b = some o := fun b o z => Heap.get?_push_of_some _ (Heap.get?_push_of_some _ z)
  have at1 : ((hp.push (PySem.W.kdv_tup us)).push (PySem.HandSPX.excO C hp.objs.size)).get? (hp.objs.size + 1) = some (PySem.HandSPX.excO C hp.objs.size) := by heap_get
  have J : Inv X pins σ (upd H1 (hp.objs.size + 1) (exo (hp.objs.size + 1) C none)) ⟨(hp.push (PySem.W.kdv_tup us)).push (PySem.HandSPX.excO C hp.objs.size), g, dr, tk, os⟩ := Inv.laid (t' := tk) I1 kept up (exo_ok at1)
  have rel : Vals (V.ref (hp.objs.size + 1) :: vs) (Value.ref (hp.objs.size + 1) :: us) := .cons rfl r1
  have n1 : (Value.ref (hp.objs.size + 1) :: us).length = ps.length := by rw [← rel.length]; exact F.len _ _ _ _ want
  have bd := hb _ (Value.ref (hp.objs.size + 1) :: us) J.kIn (by rw [List.append_nil]; exact n1)
  rw [List.append_nil] at bd
  have few : us.length ≤ sizeLine := by have e1 := r1.length; have e2 := sizeLine_eq; omega
  refine wpAny_call (PySem.HandSPX.call_own PySem.F.excBase_IndexError (fun _ => rfl) (I1.kIn _ _ hC) (PySem.W.looks_findIn I1.kIn iC) (fun self => PySem.W.bind_fn I1.kIn self tI) few
    (codeAny_mono (F.run _ X.stack _ _ ⟨Value.ref (hp.objs.size + 1) :: us, []⟩ _ _ _ (fun _ _ _ => False) (hr.make C us []) (J.env0.make C us []) bd rel want) fun r s2 got => ?_))
  cases r with
  | error er => exact hx pins σ _ _ er s2 J got
  | ok fl =>
    cases fl with
    | next => exact got.elim
    | brk => exact got.elim
    | cont => exact got.elim
    | ret u =>
      obtain ⟨v, H2, J2, rv, ev, q2⟩ := J.after got
      subst ev
      exact ⟨rv, .ref (hp.objs.size + 1), H2, J2, rfl, q2⟩
/-- C() of a class without an own __init__ -/
theorem pe_exc0 {bmB : List Value} {B newId initId : String} (F : ExcBaseFacts B newId initId bmB) (q : PySem.W.excIn X.K C bmB newId = true) (gC : X.mg x = some (.ref C)) (kC : PySem.W.keepIn X.K (.ref C) = true) (hg : Gl X x)
    (hdb : (x == ("__debug__" : Str)) = false := by decide) : PE X (.Call (.Name x p) [] [] pos) (fun σ H Q => ∀ a, H a = none → Q (.ref a) (upd H a (ExO (.ref C) a))) := by
  refine ⟨fun pins s σ H Q I h => ?_⟩
  refine wpAny_Call_Name_kw (ld_glob I hg gC ?_ hdb)
  have I1 := I
  refine PySem.W.callWith_K0 I.kIn kC ?_
  obtain ⟨bm, N, nm, qn, bs, hdct, sn, sub, ab, col, dd, k0, k1, k2, k3, k5, mN, hC, hN, hni, T⟩ := exc_obj I1.kIn q
  refine wpAny_call_exc_subT F T hC hN hni (fun h' a hm => ?_) (by show 0 ≤ sizeLine; omega)
  have hn : H a = none := I1.hok.gone hm.new
  obtain ⟨t, ht, _, _⟩ := hm.there
  exact ⟨.ref a, upd H a (ExO (.ref C) a), I1.laidN hm.keeps hm.new hn (exO_ok ht ⟨rfl, rfl⟩ rfl rfl rfl (show 4 < 6 by decide)), rfl, h a hn⟩
end
/-- at a: an exception of the class at C; its field, where it has one -/
def ErrA (H : Hp) (a C : Addr) (o : Option (Str × V)) : Prop := (∃ dx f y, o = some (f, y) ∧ H a = some (exo a C (some dx)) ∧ H dx = some (exd dx [(f, y)])) ∨ (o = none ∧ H a = some (ExO (.ref C) a))
section
variable {X : Cx} {pins : List (Addr × Obj)} {σ : L2.St} {H : Hp} {s : Shared} {a C : Addr} {o : Option (Str × V)}
theorem err_at (I : Inv X pins σ H s) (h : ErrA H a C o) : ∃ oe od, PySem.W.InstAt s.heap a oe C od ∧ ∀ f y, o = some (f, y) → ∃ (dx : Addr) (od1 : Obj) (u : Value), od = some od1 ∧ PySem.W.lookIn f od1 = some (some u) ∧ RelV y u := by
  rcases h with ⟨dx, f, y, rfl, ha, hd⟩ | ⟨rfl, ha⟩
  · obtain ⟨t1, ho⟩ := exo_at I.hok ha
    obtain ⟨mA, hns, rel⟩ := exd_at I.hok hd
    obtain ⟨od, ho2, hl⟩ := lookIn_ns hns
    refine ⟨_, some od, ⟨ho, rfl, by unfold PySem.W.notCls; rfl, ho2⟩, fun f' y' e => ?_⟩
    cases e
    obtain ⟨u, hu, ru⟩ := RelO.some_of (v := y) (o := mA f) (by
      have z := rel f
      rw [lookup_put, if_pos rfl] at z
      exact z)
    exact ⟨dx, od, u, rfl, by rw [hl, hu], ru⟩
  · obtain ⟨⟨oe, vs, he, hz, hd, _, _, _⟩, _⟩ := (show ObjOk X.prog X.w H s.heap a (ExO (.ref C) a) from I.hok a _ ha)
    exact ⟨oe, none, ⟨he, hz.1, by unfold PySem.W.notCls; rw [hd] <;> rfl, by rw [hz.2]; trivial⟩, fun f' y' e => nomatch e⟩
end
section
variable {X : Cx}
def rIsE (K : PySem.W.Frag) : List V → Hp → VK → Prop := fun xs H Q => ∃ (a C : Addr) (o : Option (Str × V)) (c : V) (cv : Value) (b : Bool), xs = [.ref a, c] ∧ ErrA H a C o ∧ ExX K C ∧ ClsV c cv ∧ PySem.W.kitOne K (.ref C) cv = some b ∧ Q (.bl b) H
theorem call_isE : CallR X (.builtin "isinstance") (rIsE X.K) := by
  intro pins s σ H xs us Q I r h
  obtain ⟨a, C, o, c, cv, b, rfl, he, T, kc, e, q⟩ := h
  obtain ⟨u1, u2, rfl, r1, r2⟩ := vals2 r
  obtain rfl := kc.eq r2
  cases (show u1 = Value.ref a from r1)
  obtain ⟨oe, od, J, _⟩ := err_at I he
  exact PySem.W.kia_one (PySem.W.kitx_exc T.cl T.ga T.gg T.sb T.ca T.sp T.tk T.mo) I.kIn J e (fun z => nomatch z) fun tk => ⟨.bl b, H, I.tok tk, rfl, q⟩
def tXfE (K : PySem.W.Frag) (f : Str) (te : TE) : TE := fun σ H Q => te σ H fun x H1 => ∃ (a C : Addr) (v : V), x = .ref a ∧ ErrA H1 a C (some (f, v)) ∧ XfC K C ∧ PySem.W.findIn K (.ref C) f = some none ∧ Q v H1
theorem pe_xfE {e : Expr} {te : TE} {pos : Pos} {n : Str} (he : PE X e te) (hb : attributeBase e n X.env (eval e X.env) = eval e X.env := by rfl) : PE X (.Attribute e n pos) (tXfE X.K n te) := by
  refine ⟨fun pins s σ H Q I h => ?_⟩
  refine attr_of hb (thn (he.run pins s σ H _ I h) fun u s1 hh => ?_)
  obtain ⟨x, H1, I1, rx, a, C, v, ex, ea, T, hno, q⟩ := hh
  subst ex
  cases (show u = Value.ref a from rx)
  obtain ⟨oe, od, J, more⟩ := err_at I1 ea
  obtain ⟨dx, od1, u, rfl, hl, ru⟩ := more n v rfl
  exact HandSPX.exc_get I1.kIn J T.ga T.gg T.exC (PySem.W.findObj_own T.hdC hno rfl hl) (handed_of ru) ⟨v, H1, I1.tok _, ru, q⟩
end
end Rs
/-! A def's promise at one stand of the machine (what runs around it known), so that repr of lists and tuples can be told. -/
namespace Rs
open PySem PySem.Spec PyProof.Rows L2
/-- the promise of the def at f, called where A runs around -/
structure At (A : Around) (P : Program) (w : World) (K : PySem.W.Frag) (mg : Str → Option Value) (base : Heap) (CX : CXT) (k : Nat) (f : Addr) (ps : List Str) (fd : FuncData) (sp : Sp) : Prop where
  len : ∀ vs H Q E, sp vs H Q E → vs.length = ps.length
  go : ∀ (outer : List Env) (s : Shared) (H : Hp) (args : Args) (us : List Value) (vs : List V) (Q : VK) (E : XK), Room k A → Env0 P w K mg base A outer s H → BindsTo s fd args (ps.zip us) → Vals vs us → sp vs H Q E → codeAny (model P w) A (.call (.ref f) args) (CR CX outer P w H s Q E) s
section
variable {P : Program} {w : World} {K : PySem.W.Frag} {mg : Str → Option Value} {base : Heap}
theorem fun_at {A : Around} {x qual : Str} {st : Stmt} {f : Addr} {fd : FuncData} {N ps : List Str} {k : Nat} {CX : CXT} {sp : Sp} (F : Fun K x qual st f fd) (S : FnScope N ps (defScope st)) (len : ∀ vs H Q E, sp vs H Q E → vs.length = ps.length)
    (body : ∀ (cdv : Value) (outer : List Env) (s : Shared) (H : Hp) (vs : List V) (Q : VK) (E : XK), Room k (A.deeper (envOfC qual (defScope st) s.heap.objs.size f cdv)) → sp vs H Q E →
      ∃ t, PSs (cxOf CX P w K mg base N qual (defScope st) f cdv A outer s H E) (defBody st) t ∧ t { nx := fun _ H' => Q .non H', rt := Q } (start N vs) H) : At A P w K mg base CX (k + 1) f ps fd sp := by
  obtain ⟨oc, od, kV, doc, pm, an, cdv, ct, osl, rfl, lk, code⟩ := F.ex
  refine ⟨len, fun outer s H args us vs Q E room st0 bind rel pre => ?_⟩
  have nargs := len vs H Q E pre
  have inK : K.In s.heap := st0.mod.kin.keeps fun b o hb => (st0.bs b o hb).1
  have free : s.heap.NoLimit := st0.mod.nolimit.keeps fun b o hb => (st0.bs b o hb).1
  refine codeAny_call_function room.depth (inK _ _ lk) rfl S.co S.gen rfl (PySem.W.codeRec_of inK code) (bind _ _ _ _ ?_)
  have kinds : ∀ y ∈ ps.zip us, (defScope st).names.lookup y.1 = some .local ∨ ((defScope st).names.lookup y.1 = some .cell ∧ ((cellsFrom (s.heap.objs.size + 1) (defScope st).names []).lookup y.1).isSome = true) := by
    rintro ⟨n, v⟩ mem
    exact (S.par n (List.of_mem_zip mem).1).elim .inl fun q => .inr ⟨q, PySem.W.cellsFrom_some _ _ _ (.inl q)⟩
  refine wpAny_newFunctionEnv_cells S.kind kinds fun env eq s1 x => ?_
  subst eq
  refine ⟨free.keeps x.toInCall.keep, codeAny_func ?_⟩
  obtain ⟨t, der, rd⟩ := body cdv outer s H vs Q E (room.deeper _) pre
  have inv0 := inv_start (CX := CX) (E := E) S room.hd st0 nargs rel x
  refine wpAny_mono (der.run [] s1 (start N vs) H _ inv0 rd) (fun way s' out => ?_) fun e s' out => out
  cases way with
  | brk => obtain ⟨_, _, _, no⟩ := out; exact no.elim
  | cont => obtain ⟨_, _, _, no⟩ := out; exact no.elim
  | ret u =>
    obtain ⟨v, σ', H', J, rv, q⟩ := out
    exact (⟨v, H', J.os, J.bare, J.base, J.hok, rv, q⟩ : CE outer P w H s Q u s')
  | next =>
    obtain ⟨σ', H', J, q⟩ := out
    exact (⟨V.non, H', J.os, J.bare, J.base, J.hok, rfl, q⟩ : CE outer P w H s Q Value.none s')
end
/-! f(e, ..), its promise told where the body of the caller stands -/
section
variable {X : Cx} {CX : CXT} {k : Nat} {f : Addr} {fd : FuncData} {ps : List Str} {sp : Sp} {E : XK}
theorem pe_callAt {x : Str} {p pos : Pos} {e : Expr} {es : List Expr} {t : TA} (F : At X.A X.prog X.w X.K X.mg X.base CX k f ps fd sp) (hr : Room k X.A) (hg : Gl X x) (hm : X.mg x = some (.ref f)) (hk : PySem.W.keepIn X.K (.ref f) = true) (hb : Binds X.K fd ps []) (hx : Passes CX X E)
    (ha : PA X (e :: es) t) (hdb : (x == ("__debug__" : Str)) = false := by decide) (he : starEach (e :: es) X.env = (false, eval e X.env) :: starEach es X.env := by rfl) (hpl : (backTo pos (starEach es X.env)).any (·.1) = false := by rfl) :
    PE X (.Call (.Name x p) (e :: es) [] pos) (tCall sp [] E t) := by
  refine ⟨fun pins s σ H Q I h => wpAny_Call_Name_kw (ld_glob I hg hm ?_ hdb)⟩
  refine PySem.W.callWith_K (h₀ := X.base) I.ok.mod.kin hk (thn (ha.run pos pins s σ H _ I h) fun us s1 res => ?_) he hpl
  obtain ⟨vs, H1, I1, rel, pre⟩ := res
  rw [List.append_nil] at pre
  have n1 := F.len _ _ _ _ pre
  have n2 : (us ++ []).length = ps.length := by rw [List.append_nil, ← rel.length]; exact n1
  have bd := hb s1 us I1.kIn n2
  rw [List.append_nil] at bd
  refine ⟨I1.kIn, wpAny_call (codeAny_mono (F.go X.stack s1 H1 ⟨us, []⟩ us vs Q E hr I1.env0 bd rel pre) fun r s' out => ?_)⟩
  cases r with
  | error e => exact hx pins σ H1 s1 e s' I1 out
  | ok fl =>
    cases fl with
    | ret u => exact I1.after out
    | next => exact out.elim
    | brk => exact out.elim
    | cont => exact out.elim
end
/-! ### the law's own call -/
/-- what is tracked at the law's call: the script alone, if the top does not hold it -/
def scriptH (K : PySem.W.Frag) (a : Addr) (vs : List Value) (ns : List Int) : Hp := fun b =>
  if b = a ∧ K.lookup a = none then some (.frz { cls := .type "list", data := .seq vs.toArray } (.lst (ns.map V.int))) else none
theorem scriptH_some {K : PySem.W.Frag} {a : Addr} {vs : List Value} {ns : List Int} {b : Addr} {u : HO} (h : scriptH K a vs ns b = some u) : b = a ∧ K.lookup a = none ∧ u = .frz { cls := .type "list", data := .seq vs.toArray } (.lst (ns.map V.int)) := by
  unfold scriptH at h
  by_cases c : b = a ∧ K.lookup a = none
  · rw [if_pos c] at h
    exact ⟨c.1, c.2, (Option.some.inj h).symm⟩
  · rw [if_neg c] at h
    cases h
theorem law_at {P : Program} {w : World} {K : PySem.W.Frag} {mg mb : Str → Option Value} {k : Nat} {fa a : Addr} {fd : FuncData} {x : Str} {sp : Sp} {s₁ : Shared} {vs : List Value} {ns : List Int}
    (inK : K.In s₁.heap) (glb : s₁.heap.Ns mainGlobals mg) (blt : s₁.heap.Ns builtinsNs mb) (blt2 : ∀ x : Str, x ≠ "__name__" → mb x = bootBuiltins x) (free : s₁.heap.NoLimit) (nogen : s₁.gens = #[])
    (obj : s₁.heap.get? a = some { cls := .type "list", data := .seq vs.toArray }) (nums : IntsAre vs ns) (small : ns.length ≤ sizeLine) (room : Room k callerA)
    (F : ∀ base : Heap, K.In base → base.Ns mainGlobals mg → At callerA P w K mg base CX0 k fa [x] fd sp) (bind : ∀ (s : Shared) (u : Value), BindsTo s fd ⟨[u], []⟩ [(x, u)])
    (pre : ∀ H : Hp, SqL K H a (ns.map V.int) → sp [.ref a] H (fun v _ => v = .bl true) fun _ _ _ => False) :
    codeAny (model P w) callerA (.call (.ref fa) ⟨[.ref a], []⟩) (fun r s' => r = .ok (.ret (.bool true)) ∧ OldK s₁.heap s'.heap ∧ s'.os = s₁.os ∧ AllBare s'.gens) s₁ := by
  have rel := vals_ints nums
  have len := nums.length
  have ok : HOk P w (scriptH K a vs ns) s₁.heap := fun b u hb => by
    obtain ⟨rfl, _, rfl⟩ := scriptH_some hb
    exact ⟨obj, by rw [List.length_map]; exact small, vs, _, rel, obj⟩
  have seen : SqL K (scriptH K a vs ns) a (ns.map V.int) := by
    cases c : K.lookup a with
    | none => exact .inl (.inr ⟨_, if_pos ⟨rfl, c⟩⟩)
    | some o =>
      have q := inK a o c
      rw [obj] at q
      cases q
      exact .inr ⟨_, vs.toArray, _, c, rfl, rfl, rfl, by rw [List.size_toArray, len]; exact small, by simpa using rel⟩
  have hid : ∀ {b : Addr} {o : Obj}, s₁.heap.get? b = some o → scriptH K a vs ns b = none → (hidT s₁.heap (scriptH K a vs ns)).get? b = some o := fun e n => hidT_get e n
  have none_of : ∀ {b : Addr} {o : Obj}, s₁.heap.get? b = some o → (b = a → K.lookup a = none → False) → scriptH K a vs ns b = none := fun {b o} _ no => by
    cases q : scriptH K a vs ns b with
    | none => rfl
    | some u =>
      obtain ⟨h1, h2, _⟩ := scriptH_some q
      exact (no h1 h2).elim
  have nsH : ∀ {b : Addr} {m : Str → Option Value}, s₁.heap.Ns b m → (hidT s₁.heap (scriptH K a vs ns)).Ns b m := fun {b m} n => by
    obtain ⟨o, es, ep, e, d, r⟩ := n
    refine ⟨o, es, ep, hid e (none_of e fun h1 _ => ?_), d, r⟩
    subst h1
    rw [obj] at e
    cases e
    have d' : Data.seq vs.toArray _ = Data.dict es ep := d
    cases d'
  have kH : K.In (hidT s₁.heap (scriptH K a vs ns)) := fun b o e => hid (inK b o e) (none_of (inK b o e) fun h1 h2 => by
    subst h1
    rw [h2] at e
    cases e)
  have mod : Mod K mg (hidT s₁.heap (scriptH K a vs ns)) := ⟨kH, nsH glb, ⟨mb, nsH blt, blt2⟩, let ⟨c, h1, h2⟩ := free; ⟨c, nsH h1, h2⟩⟩
  have st0 : Env0 P w K mg (hidT s₁.heap (scriptH K a vs ns)) callerA [] s₁ (scriptH K a vs ns) :=
    ⟨rfl, mod, fun b o e => of_hidT e, Nat.le_of_eq (hidT_size _ _), trivial, fun b hb => absurd (show b ∈ ([] : List Addr) from hb) List.not_mem_nil, ok, .of_eq nogen⟩
  refine codeAny_mono ((F _ kH (nsH glb)).go [] s₁ (scriptH K a vs ns) ⟨[.ref a], []⟩ [.ref a] [.ref a] _ _ room st0 (bind s₁ (.ref a)) (.cons rfl .nil) (pre _ seen)) fun r s' out => ?_
  cases r with
  | error e => exact out.elim
  | ok fl =>
    cases fl with
    | next => exact out.elim
    | brk => exact out.elim
    | cont => exact out.elim
    | ret u =>
      obtain ⟨v, H', os, bare, un, ok', rv, q⟩ := out
      obtain rfl : v = .bl true := q
      obtain rfl : u = Value.bool true := rv
      refine ⟨rfl, OldK.of_keep fun b o e => ?_, os, bare⟩
      cases c : scriptH K a vs ns b with
      | none => exact un.keep b o e c (fun z => absurd (show b ∈ ([] : List Addr) from z) List.not_mem_nil) (by simp)
      | some u =>
        obtain ⟨_, _, rfl⟩ := scriptH_some c
        obtain ⟨e1, _⟩ := ok b _ c
        obtain ⟨e2, _⟩ := ok' b _ (un.frzs b _ _ c)
        rw [e] at e1
        cases e1
        exact e2
theorem walk_at_of {l : PySem.W.OpenLaw} {n k : Nat} {q : Program} {loose : List Str} {XP : (Str → Option Value) → Heap → Prop} {YP : World → Heap → Prop} {d : DefRec} {K : Params → PySem.W.Frag} {sp : World → Sp} {x : Str}
    (most : l.most = some n) (small : n ≤ sizeLine) (nodef : d.params.defaults = []) (room : Room k callerA) (inK : ∀ (w : World) (h : Heap), YP w h → (K w.params).In h)
    (F : ∀ (w : World) (mg : Str → Option Value) (fa : Addr) (h : Heap), (K w.params).In h → h.Ns mainGlobals mg → mg d.name = some (.ref fa) →
      ∃ fd : FuncData, (∀ (s : Shared) (u : Value), BindsTo s fd ⟨[u], []⟩ [(x, u)]) ∧ ∀ base : Heap, (K w.params).In base → base.Ns mainGlobals mg → At callerA l.prog w (K w.params) mg base CX0 k fa [x] fd (sp w))
    (pre : ∀ (w : World) (H : Hp) (a : Addr) (ns : List Int), ns.length ≤ n → SqL (K w.params) H a (ns.map V.int) → sp w [.ref a] H (fun v _ => v = .bl true) fun _ _ _ => False) :
    PySem.W.WalkO q loose XP YP l.row.toRowW d [] (fun f vs => PySem.call f vs) :=
  Att.attach_call most nodef fun w s₀ s₁ mg mb fa o pm cd doc a vs ns G Y ho hd hcd hmg obj nums len nogen => by
    have kx := inK w _ Y
    obtain ⟨fd, bind, promise⟩ := F w mg fa _ kx G.T.g hmg
    exact law_at kx G.T.g G.T.b G.T.builtins G.T.nolimit nogen obj nums (Nat.le_trans len small) room promise bind fun H hS => pre w H a ns len hS
/-! ### repr -/
theorem guards_deeper {A : Around} {env : Env} (h : A.guards = some []) : (A.deeper env).guards = some [] := h
def rRepr (K : PySem.W.Frag) : List V → Hp → VK → Prop := fun xs H Q => ∃ v d, xs = [v] ∧ Dp K H v d ∧ d.showable = true ∧ d.hasDict = false ∧ d.depth ≤ 60 ∧ d.shown.length ≤ sizeLine ∧ Q (.str d.shown) H
theorem call_reprD {X : Cx} {k : Nat} (hr : Room k X.A) (hg : X.A.guards = some []) : CallR X (.builtin "repr") (rRepr X.K) := by
  intro pins s σ H xs us Q I r h
  obtain ⟨v, d, rfl, hd, sh, nd, dp, ln, q⟩ := h
  obtain ⟨u, rfl, ru⟩ := vals1 r
  cases hd with
  | non => obtain rfl : u = Value.none := ru; exact PySem.P.repr_of_none ⟨.str _, H, I.tok _, ⟨_, rfl⟩, q⟩
  | bl b =>
    obtain rfl : u = Value.bool b := ru
    refine PySem.P.repr_of_bool ⟨.str _, H, I.tok _, ⟨_, rfl⟩, ?_⟩
    exact q
  | int i =>
    obtain ⟨t, rfl⟩ := (show ∃ t, u = Value.int i t from ru)
    exact PySem.P.repr_of_int (by simpa [PyData.showable] using sh) ⟨.str _, H, I.tok _, ⟨_, rfl⟩, q⟩
  | str x =>
    obtain ⟨t, rfl⟩ := (show ∃ t, u = Value.str x t from ru)
    exact PySem.P.repr_of_str ⟨.str _, H, I.tok _, ⟨_, rfl⟩, q⟩ ln
  | lst h1 h2 =>
    obtain ⟨as, rd⟩ := Dp.reads I _ _ u (.lst h1 h2) ru
    cases (show u = Value.ref _ from ru)
    exact repr_of_reads' rd sh (fun z => by rw [nd] at z; cases z) hg (by have := hr.units; omega) (fun _ _ e => e) (fun h' t tk hk => ⟨.str _, H, I.kept (t' := tk) hk, ⟨_, rfl⟩, q⟩) ln
  | tup h1 h2 =>
    obtain ⟨as, rd⟩ := Dp.reads I _ _ u (.tup h1 h2) ru
    cases (show u = Value.ref _ from ru)
    exact repr_of_reads' rd sh (fun z => by rw [nd] at z; cases z) hg (by have := hr.units; omega) (fun _ _ e => e) (fun h' t tk hk => ⟨.str _, H, I.kept (t' := tk) hk, ⟨_, rfl⟩, q⟩) ln
section
variable {P : Program} {w : World} {K : PySem.W.Frag} {mg : Str → Option Value} {base : Heap}
/-- the same where nothing is let out -/
theorem fun_at0 {A : Around} {x qual : Str} {st : Stmt} {f : Addr} {fd : FuncData} {N ps : List Str} {k : Nat} {sp : Sp} (F : Fun K x qual st f fd) (S : FnScope N ps (defScope st)) (len : ∀ vs H Q E, sp vs H Q E → vs.length = ps.length)
    (body : ∀ (cdv : Value) (outer : List Env) (s : Shared) (H : Hp) (vs : List V) (Q : VK) (E : XK), Room k (A.deeper (envOfC qual (defScope st) s.heap.objs.size f cdv)) → sp vs H Q E →
      ∃ t, PSs (cxOf CX0 P w K mg base N qual (defScope st) f cdv A outer s H E).nox (defBody st) t ∧ t { nx := fun _ H' => Q .non H', rt := Q } (start N vs) H) : At A P w K mg base CX0 (k + 1) f ps fd sp :=
  fun_at F S len fun cdv outer s H vs Q E hr hsp => by
    obtain ⟨t, h, q⟩ := body cdv outer s H vs Q E hr hsp
    exact ⟨t, h.nox, q⟩
end
end Rs
/-! Values of any kind, told by their outermost shape. -/
namespace Rs
open PySem PySem.Spec PyProof.Rows L2
def Sh (b : Addr) (H : Hp) : V → Prop
  | .non => True
  | .bl _ => True
  | .int _ => True
  | .str _ => True
  | .ref a => a ≠ b ∧ ((∃ xs, H a = some (.lst xs)) ∨ ∃ xs, H a = some (.tup xs))
  | _ => False
theorem Sh.but {b : Addr} {H H' : Hp} {v : V} (h : Sh b H v) (k : But b H H') : Sh b H' v := by
  cases v with
  | ref a =>
    obtain ⟨ne, ⟨xs, e⟩ | ⟨xs, e⟩⟩ := h
    · exact ⟨ne, .inl ⟨xs, k a _ ne e⟩⟩
    · exact ⟨ne, .inr ⟨xs, k a _ ne e⟩⟩
  | non => trivial
  | bl _ => trivial
  | int _ => trivial
  | str _ => trivial
  | byt _ => exact h
  | flt _ => exact h
  | ty _ => exact h
def isInt : V → Bool
  | .int _ => true
  | _ => false
def isBl : V → Bool
  | .bl _ => true
  | _ => false
theorem Sh.ty {K : PySem.W.Frag} {b : Addr} {H : Hp} {v : V} (h : Sh b H v) : ∃ t, TyX K H v (.type t) ∧ kitB t "int" = some (isInt v || isBl v) ∧ kitB t "bool" = some (isBl v) := by
  cases v with
  | non => exact ⟨"NoneType", .base .non, by decide +kernel, by decide +kernel⟩
  | bl x => exact ⟨"bool", .base (.bl x), (by decide +kernel : kitB "bool" "int" = some true), (by decide +kernel : kitB "bool" "bool" = some true)⟩
  | int x => exact ⟨"int", .base (.int x), (by decide +kernel : kitB "int" "int" = some true), (by decide +kernel : kitB "int" "bool" = some false)⟩
  | str x => exact ⟨"str", .base (.str x), (by decide +kernel : kitB "str" "int" = some false), (by decide +kernel : kitB "str" "bool" = some false)⟩
  | ref a =>
    obtain ⟨ne, ⟨xs, e⟩ | ⟨xs, e⟩⟩ := h
    · exact ⟨"list", .base (.lst e), (by decide +kernel : kitB "list" "int" = some false), (by decide +kernel : kitB "list" "bool" = some false)⟩
    · exact ⟨"tuple", .base (.tup e), (by decide +kernel : kitB "tuple" "int" = some false), (by decide +kernel : kitB "tuple" "bool" = some false)⟩
  | byt _ => exact h.elim
  | flt _ => exact h.elim
  | ty _ => exact h.elim
/-- whether a value is an integer that is no bool -/
def spWhole : Sp := fun vs H Q _ => ∃ (b : Addr) (v : V), vs = [v] ∧ Sh b H v ∧ Q (.bl (isInt v)) H
theorem isInt_bl {v : V} : (isInt v || isBl v) = true → (!isBl v) = isInt v := by cases v <;> simp [isInt, isBl]
theorem isInt_no {v : V} : (isInt v || isBl v) = false → false = isInt v := by cases v <;> simp [isInt, isBl]
/-- repr of None and of a text -/
def reprV : V → Str
  | .str x => reprText x
  | _ => "None"
theorem call_repr1 {X : Cx} : CallR X (.builtin "repr") (fun xs H Q => ∃ v, xs = [v] ∧ (v = .non ∨ ∃ x : Str, v = .str x ∧ (reprText x).length ≤ sizeLine) ∧ Q (.str (reprV v)) H) := by
  intro pins s σ H xs us Q I r h
  obtain ⟨v, rfl, rfl | ⟨x, rfl, ln⟩, q⟩ := h
  · obtain ⟨u, rfl, ru⟩ := vals1 r
    obtain rfl : u = Value.none := ru
    exact PySem.P.repr_of_none ⟨.str _, H, I.tok _, ⟨_, rfl⟩, q⟩
  · obtain ⟨u, rfl, t, rfl⟩ := vals1 r
    exact PySem.P.repr_of_str ⟨.str _, H, I.tok _, ⟨_, rfl⟩, q⟩ ln
theorem but_new {b D : Addr} {H H' : Hp} {o : HO} (k : But b H H') (n : H D = none) : But b H (upd H' D o) := fun a u ne e => by
  rw [upd_ne (ne_of_none e n)]
  exact k a u ne e
theorem box_ne {b D : Addr} {H : Hp} {o : HO} (B : Box H b) (ne : D ≠ b) : Box (upd H D o) b := by
  obtain ⟨x, y, z, h, i⟩ := B
  exact ⟨x, y, z, by rw [upd_ne ne.symm]; exact h, i⟩

theorem look1 {f : Str} {v : V} : List.lookup f [(f, v)] = some v := by simp [List.lookup]
theorem Sh.set {b t : Addr} {H : Hp} {v : V} {xs ys : List V} (h : Sh b H v) (e : H t = some (.lst xs)) : Sh b (upd H t (.lst ys)) v := by
  cases v with
  | ref a =>
    obtain ⟨ne, q⟩ := h
    refine ⟨ne, ?_⟩
    by_cases c : a = t
    · subst c
      exact .inl ⟨_, upd_same⟩
    · rw [upd_ne c]
      exact q
  | non => trivial
  | bl _ => trivial
  | int _ => trivial
  | str _ => trivial
  | byt _ => exact h
  | flt _ => exact h
  | ty _ => exact h
end Rs
/-! == and != by an own __eq__, with either answer, of anything. -/
namespace Rs
open PySem PySem.Spec PyProof.Rows L2
/-- what of the class at C: its own __eq__ is g, its != is object's -/
structure OwnQ (K : PySem.W.Frag) (C g : Addr) : Prop where
  eq : PySem.W.findIn K (.ref C) "__eq__" = some (some (.ref g))
  fn : PySem.W.isFn K (.ref g) = true
  ne : PySem.W.findIn K (.ref C) "__ne__" = some (some (.builtin "object.__ne__"))
  mo : PySem.W.mroIn K C (.type "object") = some true
section
variable {M : Model} {prog : Program} {w : World} {A : Around} {E : Value → Shared → Prop} {s : Shared} {K : PySem.W.Frag} {x C f L : Addr} {ox : Obj} {od : Option Obj} {h₀ : Heap} {m : Str → Option Value} {b tb : Value}
theorem ifBound_objNe {args : List Value} {Q : Option Value → Shared → Prop} (X : K.In s.heap) (I : PySem.W.InstAt s.heap x ox C od) (hs : PySem.W.findIn K (.ref C) "__ne__" = some (some (.builtin "object.__ne__")))
    (h : wpAny M A (call (.builtin "object.__ne__") (.ref x :: args)) (fun v => Q (some v)) E s) : wpAny M A (callSpecialIfBound? (.ref x) "__ne__" args) Q E s := by
  simp only [callSpecialIfBound?, bindSpecialIfBound?]
  refine wpAny_holding (wpAny_bind (wpAny_bind (wpAny_bind (I.type.here ((PySem.W.looks_findIn X hs).here ?_)))))
  refine wpAny_bind (wpAny_askSetting (wpAny_ite ?_))
  have fin : wpAny M A (call (.builtin "object.__ne__") ([.ref x] ++ args) >>= fun v => pure (some v)) Q E s := wpAny_bind (wpAny_mono h (fun v s' h' => wpAny_pure h') fun _ _ h' => h')
  split
  · exact wpAny_bind (wpAny_of_eq (F.cmp_object.ne.bind _) (wpAny_pure (by exact fin)))
  · exact wpAny_tryCatch (wpAny_bind (wpAny_of_eq (F.cmp_object.ne.bind _) (wpAny_pure (by exact fin))))
theorem objNe_entry (hu : A.units < cLine) (X : K.In s.heap) (I : PySem.W.InstAt s.heap x ox C od) (O : OwnQ K C f) {Q : Fin → Shared → Prop}
    (hcall : wpAny (model prog w) A (call (.ref f) [.ref x, b]) (fun v s' => ∃ r, v = .bool r ∧ Q (.done (.ret (.bool (!r)))) s') E s) :
    wpAny (model prog w) A (Builtin.«object.__ne__» ⟨[.ref x, b], []⟩) Q E s := by
  unfold Builtin.«object.__ne__»
  repeat (first
    | with_reducible refine wpAny_cRoomFor hu ?_
    | (refine wpAny_bind (m := callSpecialIfBound? (.ref x) (Str.ofString "__eq__") [b])
        (PySem.W.ifBound_K X I O.eq O.fn (wpAny_mono hcall (fun v s' hr => by
          obtain ⟨r, rfl, hq⟩ := hr
          repeat (first | exact hq | exact wpAny_pure hq | exact wpAny_truthy_bool hq | (refine wpAny_bind (m := truthy (.bool _)) (wpAny_truthy_bool ?_)) | wp_step)) fun _ _ e => e)))
    | wp_step)
theorem tryCompare_neO (hu : A.units + 1 < cLine) (X : K.In s.heap) (I : PySem.W.InstAt s.heap x ox C od) (O : OwnQ K C f) {Q : Option Value → Shared → Prop}
    (hcall : wpAny (model prog w) A.in1 (call (.ref f) [.ref x, b]) (fun v s' => ∃ r, v = .bool r ∧ Q (some (.bool (!r))) s') E s) : wpAny (model prog w) A (tryCompare (.ref x) "__ne__" b) Q E s := by
  simp only [tryCompare]
  refine wpAny_bind (ifBound_objNe X I O.ne (wpAny_call (codeAny_call_builtin F.cmp_object.ne.plain F.cmpEntry_ne
    (PySem.W.check_slot F.cmpKind_ne F.cmpSplit_ne (I.type.andThen (PySem.W.looks_mroIn X O.mo)) (F.cmpArgs_ne _ _)
      (objNe_entry (A := A.in1) hu X I O (wpAny_mono hcall (fun v s' hv => ?_) fun _ _ e => e))))))
  obtain ⟨r, rfl, hq⟩ := hv
  first | exact ⟨r, rfl, wpAny_pure hq⟩ | exact ⟨r, rfl, wpAny_pure (wpAny_pure hq)⟩ | exact ⟨r, rfl, hq⟩
theorem rc_neO (hu : A.units + 1 < cLine) (X : K.In s.heap) (I : PySem.W.InstAt s.heap x ox C od) (O : OwnQ K C f) (hb : PySem.W.Looks (model prog w) s.heap (typeOf b) tb) (hn : PySem.W.notFirst K C tb = true) {Q : Value → Shared → Prop}
    (hcall : wpAny (model prog w) A.in1 (call (.ref f) [.ref x, b]) (fun v s' => ∃ r, v = .bool r ∧ Q (.bool (!r)) s') E s) : wpAny (model prog w) A (richCompare .NotEq (.ref x) b) Q E s := by
  have one : wpAny (model prog w) A (tryCompare (.ref x) "__ne__" b) (fun r s' => ∃ v, r = some v ∧ Q v s') E s := tryCompare_neO hu X I O (wpAny_mono hcall (fun v s' hv => by
    obtain ⟨r, rfl, hq⟩ := hv
    exact ⟨r, rfl, _, rfl, hq⟩) fun _ _ e => e)
  unfold richCompare
  simp only [oneThing_ref]
  refine wpAny_holding (wpAny_bind (wpAny_cRoomFor (Nat.lt_of_succ_lt hu) ?_))
  refine wpAny_bind (I.type.here (wpAny_bind (hb.here ?_)))
  split
  · rename_i q
    have e : PySem.W.subIn K tb (.ref C) = some false := by
      rcases Bool.or_eq_true_iff.mp hn with e | e
      · rw [beq_iff_eq.mp e] at q; simp at q
      · exact beq_iff_eq.mp e
    refine wpAny_bind ((PySem.W.looks_subIn X e).here ?_)
    simp only [Bool.false_eq_true, if_false]
    refine wpAny_bind (wpAny_mono one (fun r s' z => ?_) fun _ _ e => e)
    obtain ⟨v, rfl, hq⟩ := z
    exact wpAny_pure hq
  · refine wpAny_bind (wpAny_pure ?_)
    simp only [Bool.false_eq_true, if_false]
    refine wpAny_bind (wpAny_mono one (fun r s' z => ?_) fun _ _ e => e)
    obtain ⟨v, rfl, hq⟩ := z
    exact wpAny_pure hq
end
theorem notFirst_ty {K : PySem.W.Frag} {C : Addr} {T : String} {ns : List String} (e : fastBuiltinMro T = some (ns.map Value.type)) : PySem.W.notFirst K C (.type T) = true := by
  have : PySem.W.subIn K (.type T) (.ref C) = some false := by
    show (fastBuiltinMro T).map (·.contains (.ref C)) = some false
    rw [e]
    simp
  unfold PySem.W.notFirst
  rw [this]
  simp
theorem notFirst_self {K : PySem.W.Frag} {C : Addr} : PySem.W.notFirst K C (.ref C) = true := by simp [PySem.W.notFirst]
theorem nf_none {K : PySem.W.Frag} {C : Addr} : PySem.W.notFirst K C (.type "NoneType") = true := notFirst_ty (ns := ["NoneType", "object"]) (by decide +kernel)
theorem nf_bool {K : PySem.W.Frag} {C : Addr} : PySem.W.notFirst K C (.type "bool") = true := notFirst_ty (ns := ["bool", "int", "object"]) (by decide +kernel)
theorem nf_int {K : PySem.W.Frag} {C : Addr} : PySem.W.notFirst K C (.type "int") = true := notFirst_ty (ns := ["int", "object"]) (by decide +kernel)
theorem nf_str {K : PySem.W.Frag} {C : Addr} : PySem.W.notFirst K C (.type "str") = true := notFirst_ty (ns := ["str", "object"]) (by decide +kernel)
theorem nf_list {K : PySem.W.Frag} {C : Addr} : PySem.W.notFirst K C (.type "list") = true := notFirst_ty (ns := ["list", "object"]) (by decide +kernel)
theorem nf_tuple {K : PySem.W.Frag} {C : Addr} : PySem.W.notFirst K C (.type "tuple") = true := notFirst_ty (ns := ["tuple", "object"]) (by decide +kernel)
section
variable {X : Cx} {CX : CXT} {pins : List (Addr × Obj)} {σ : L2.St} {H : Hp} {s : Shared} {C g : Addr} {n : Nat} {sp : Sp} {E : XK} {x : V} {u t : Value}
theorem ty_looks {M : Model} (I : Inv X pins σ H s) (rx : RelV x u) (ty : TyX X.K H x t) : PySem.W.Looks M s.heap (typeOf u) t := by
  obtain ⟨P, Z, hp, _⟩ := kit_of I rx ty
  exact Z.ty _ _ I.kIn hp
theorem ins_at {a dx : Addr} {fs : List (Str × V)} (I : Inv X pins σ H s) (h : H a = some (.ins C dx fs)) : ∃ ox od, PySem.W.InstAt s.heap a ox C od := by
  obtain ⟨mA, J, _⟩ := ins_get I.hok h
  obtain ⟨od, J, _⟩ := J.look
  exact ⟨_, _, J⟩
/-- x == y, x an instance of the class at C with its own __eq__ -/
def rEqO (K : PySem.W.Frag) (C : Addr) (sp : Sp) (E : XK) : R2 := fun x y H Q => ∃ a dx fs tb, x = .ref a ∧ H a = some (.ins C dx fs) ∧ TyX K H y tb ∧ PySem.W.notFirst K C tb = true ∧ sp [x, y] H Q E
theorem op_eqO (O : OwnQ X.K C g) (F : FnR X.prog X.w X.K X.mg X.base CX n g sp) (hr : Room n X.A) (hx : Passes CX X E) : OpR X (compareOp .Eq) (rEqO X.K C sp E) := by
  intro pins s σ H x y v u Q I rx ry h
  obtain ⟨a, dx, fs, tb, rfl, ha, ty, hn, q⟩ := h
  cases (show v = Value.ref a from rx)
  obtain ⟨ox, od, J⟩ := ins_at I ha
  obtain ⟨m, hF⟩ := I.fr
  show wpAny (model X.prog X.w) X.A (richCompare .Eq (.ref a) u) (EP X pins σ Q) X.xe s
  refine PySem.W.cmp_K (op := .Eq) (tb := tb) hr.units0 hF I.ok.mod.kin J (ty_looks I ry ty) hn O.eq O.fn ?_
  refine wpAny_mono (wpAny_call (run_fnR (us := [.ref a, u]) (vs := [.ref a, y]) F hr hx I (.cons rfl (.cons ry .nil)) q)) (fun w s' z => ?_) fun _ _ x => x
  obtain ⟨z', H', I', rz, qz⟩ := z
  exact SlX.cmpback rz ⟨z', H', I', rz, qz⟩
/-- x != y -/
def rNeO (K : PySem.W.Frag) (C : Addr) (sp : Sp) (E : XK) : R2 := fun x y H Q => ∃ a dx fs tb, x = .ref a ∧ H a = some (.ins C dx fs) ∧ TyX K H y tb ∧ PySem.W.notFirst K C tb = true ∧ sp [x, y] H (fun z H' => ∃ r, z = .bl r ∧ Q (.bl (!r)) H') E
theorem op_neO (O : OwnQ X.K C g) (F : FnR X.prog X.w X.K X.mg X.base CX n g sp) (hr : Room (n + 1) X.A) (hx : Passes CX X E) : OpR X (compareOp .NotEq) (rNeO X.K C sp E) := by
  intro pins s σ H x y v u Q I rx ry h
  obtain ⟨a, dx, fs, tb, rfl, ha, ty, hn, q⟩ := h
  cases (show v = Value.ref a from rx)
  obtain ⟨ox, od, J⟩ := ins_at I ha
  show wpAny (model X.prog X.w) X.A (richCompare .NotEq (.ref a) u) (EP X pins σ Q) X.xe s
  have hr1 : Room n X.A.in1 := Room.in1 hr
  refine rc_neO (C := C) (f := g) (tb := tb) (by have := hr.un; omega) I.kIn J O (ty_looks I ry ty) hn ?_
  refine wpAny_mono (wpAny_call (SlX.run_at (us := [.ref a, u]) (ws := [.ref a, y]) F hr1 I.env0.in1 hx I (.cons rfl (.cons ry .nil)) q)) (fun w s' z => ?_) fun _ _ x => x
  obtain ⟨z', H', I', rz, r, ez, qz⟩ := z
  subst ez
  cases (show w = Value.bool r from rz)
  exact ⟨r, rfl, .bl (!r), H', I', rfl, qz⟩
end
end Rs
/-! A built-in value == an instance with an own __eq__; such an instance in a tuple. -/
namespace Rs
open PySem PySem.Spec PyProof.Rows PySem.SeqAt L2 SeqRoads2 MeetsSeq MeetsSeq2 MeetsSeq3
open AutoSeq1 (wpAny_loadPart')
section
variable {prog : Program} {w : World} {A : Around} {E : Value → Shared → Prop} {s : Shared} {K : PySem.W.Frag} {x C f : Addr} {ox : Obj} {od : Option Obj}
theorem rc_eqR {T id : String} {u : Value} {Q : Value → Shared → Prop} (hu : A.units < cLine) (X : K.In s.heap) (I : PySem.W.InstAt s.heap x ox C od) (O : OwnQ K C f) (hT : s.TypeIs u T) (S : Slot T "__eq__" id)
    (hm : PySem.W.mroIn K C (.type T) = some false) (decl : wpAny (model prog w) A (call (.builtin id) [u, .ref x]) (fun v s' => v = .notImplemented ∧ s' = s) E s)
    (h : wpAny (model prog w) A (call (.ref f) [.ref x, u]) (PySem.W.CmpBack Q) E s) : wpAny (model prog w) A (richCompare .Eq u (.ref x)) Q E s := by
  have one : wpAny (model prog w) A (tryCompare u "__eq__" (.ref x)) (fun r s' => r = none ∧ s' = s) E s :=
    wpAny_tryCompare_declines hT S (wpAny_mono decl (fun v s' z => ⟨z.1, rfl, z.2⟩) fun _ _ e => e)
  have two : wpAny (model prog w) A (tryCompare (.ref x) "__eq__" u) (fun r s' => ∃ v, r = some v ∧ Q v s') E s := by
    unfold tryCompare
    refine wpAny_bind (PySem.W.ifBound_K X I O.eq O.fn (wpAny_mono h (fun v s' hv => ?_) fun _ _ e => e))
    cases v <;> first | exact hv.elim | exact wpAny_pure ⟨_, rfl, hv⟩
  simp only [richCompare, cmpInfo_Eq, hT.oneThing_none]
  refine wpAny_holding (wpAny_bind (wpAny_cRoomFor hu ?_))
  refine wpAny_bind (wpAny_typeOf hT ?_)
  refine wpAny_bind (I.type.here ?_)
  split
  · refine wpAny_bind ((PySem.W.looks_subIn X (t := .ref C) (base := .type T) hm).here ?_)
    simp only [Bool.false_eq_true, if_false, Bool.not_false, if_true]
    refine wpAny_bind (m := tryCompare u _ (.ref x)) (wpAny_mono one (fun r s1 z => ?_) fun _ _ e => e)
    obtain ⟨z1, z2⟩ := z
    subst z1
    subst z2
    refine wpAny_bind (m := tryCompare (.ref x) _ u) (wpAny_mono two (fun r s2 z => ?_) fun _ _ e => e)
    obtain ⟨v, rfl, hq⟩ := z
    exact wpAny_pure hq
  · rename_i q
    exact absurd (by simp) q
theorem str_eq_ins (a : Str) (t : Tok) (x C dx : Addr) : Meets (Builtin.«str.__eq__» ⟨[.str a t, .ref x], []⟩) (fun _ R s => s.heap.get? x = some (PySem.W.instObj C dx) ∧ R (.ok (.ret .notImplemented)) s) :=
  .of_wp fun prog w A R s h => by
    obtain ⟨hp, g, d, tk, os⟩ := s; obtain ⟨hl, h⟩ := h
    unfold PySem.W.instObj at hl
    wp_walk using wpAny_loadPart' hl
    exact ⟨_, rfl, h⟩
theorem wpAny_sub' {M : Model} {A : Around} {E : Value → Shared → Prop} {h : Heap} {g : Array GenState} {d : Drawn} {t : Nat} {os : OsState} {a b : Value} {r : Bool} {Q : Bool → Shared → Prop}
    (x : PySem.W.Looks M h (isSubtype a b) r) (hq : Q r ⟨h, g, d, t, os⟩) : wpAny M A (isSubtype a b) Q E ⟨h, g, d, t, os⟩ := PySem.W.Looks.here (s := ⟨h, g, d, t, os⟩) x hq
theorem tuple_eq_ins (l x C dx : Addr) (hm : PySem.W.mroIn K C (.type "tuple") = some false) :
    Meets (Builtin.«tuple.__eq__» ⟨[.ref l, .ref x], []⟩) (fun _ R s => K.In s.heap ∧ s.heap.get? x = some (PySem.W.instObj C dx) ∧ R (.ok (.ret .notImplemented)) s) :=
  .of_wp fun prog w A R s h => by
    obtain ⟨hp, g, d, tk, os⟩ := s; obtain ⟨X, hl, h⟩ := h
    unfold PySem.W.instObj at hl
    have L : PySem.W.Looks (model prog w) hp (isSubtype (.ref C) (.type "tuple")) false := PySem.W.looks_subIn X hm
    wp_walk using wpAny_loadPart' hl, wpAny_sub' L
    exact ⟨_, rfl, h⟩
theorem list_eq_ins (l x C dx : Addr) (hm : PySem.W.mroIn K C (.type "list") = some false) :
    Meets (Builtin.«list.__eq__» ⟨[.ref l, .ref x], []⟩) (fun _ R s => K.In s.heap ∧ s.heap.get? x = some (PySem.W.instObj C dx) ∧ R (.ok (.ret .notImplemented)) s) :=
  .of_wp fun prog w A R s h => by
    obtain ⟨hp, g, d, tk, os⟩ := s; obtain ⟨X, hl, h⟩ := h
    unfold PySem.W.instObj at hl
    have L : PySem.W.Looks (model prog w) hp (isSubtype (.ref C) (.type "list")) false := PySem.W.looks_subIn X hm
    wp_walk using wpAny_loadPart' hl, wpAny_sub' L
    exact ⟨_, rfl, h⟩
theorem int_eq_ins (i : Int) (t : Tok) (x C dx : Addr) : Meets (Builtin.«int.__eq__» ⟨[.int i t, .ref x], []⟩) (fun _ R s => s.heap.get? x = some (PySem.W.instObj C dx) ∧ R (.ok (.ret .notImplemented)) s) :=
  .of_wp fun prog w A R s h => by
    obtain ⟨hp, g, d, tk, os⟩ := s; obtain ⟨hl, h⟩ := h
    unfold PySem.W.instObj at hl
    wp_walk using wpAny_loadPart' hl
    exact ⟨_, rfl, h⟩
/-- u in a builtin's loop against an instance -/
theorem eqBool_ins {u : Value} {Q : Bool → Shared → Prop} (hne : (u == Value.ref x) = false) (h : wpAny (model prog w) A (richCompare .Eq u (.ref x)) (fun v s' => ∃ r, v = .bool r ∧ Q r s') E s) : wpAny (model prog w) A (eqBool u (.ref x)) Q E s := by
  unfold eqBool
  refine wpAny_holding ?_
  refine wpAny_ite_split (fun hab => by rw [hne] at hab; cases hab) (fun _ => ?_)
  cases u <;> (
    refine wpAny_bind (wpAny_mono h (fun v s' hv => ?_) fun _ _ x => x)
    obtain ⟨r, rfl, q⟩ := hv
    exact wpAny_truthy_bool q)
theorem tuple_inG {R : Result → Shared → Prop} (l : Addr) (items : Array Value) (n : Nat) (dd : Option Addr) (sl : Array (Option Value)) (y : Value) (I : Shared → Prop)
    (turn : ∀ z, z ∈ items → ∀ s, I s → wpAny (model prog w) A.in1 (eqBool z y) (fun r s' => r = false ∧ I s') (fun e s' => R (.error e) s') s)
    (fin : ∀ s, I s → R (.ok (.ret (.bool false))) s) (hl : s.heap.get? l = some { cls := .type "tuple", dict := dd, data := .seq items n, slots := sl }) (h : I s) :
    wpAny (model prog w) A.in1 (Builtin.«tuple.__contains__» ⟨[.ref l, y], []⟩) (GQ.FinOf prog w A R) (fun e s' => R (.error e) s') s := by
  obtain ⟨hp, g, d, tk, os⟩ := s
  wp_walk using wpAny_loadPart' hl, wpAny_forIn_array _ (fun rest b s' => b.1 = none ∧ I s' ∧ (∀ z, z ∈ rest → z ∈ items)) _

  case turn =>
    rintro z rest b s' ⟨hb, hI, hmem⟩
    refine wpAny_bind (wpAny_mono (turn z (hmem z (List.mem_cons_self ..)) s' hI) (fun r s2 q => ?_) fun _ _ x => x)
    obtain ⟨rfl, q2⟩ := q
    wp_walk
    exact ⟨rfl, q2, fun z hz => hmem z (List.mem_cons_of_mem _ hz)⟩
  case fin =>
    rintro ⟨b1, b2⟩ s' ⟨hb, hI, hmem⟩
    simp only at hb
    subst hb
    have hR := fin s' hI
    wp_walk
    exact hR
  case h =>
    exact ⟨rfl, h, fun z hz => by simpa using hz⟩
theorem in_tupG {l : Addr} {items : Array Value} {y : Value} {Q : Value → Shared → Prop} (I : Shared → Prop) (hl : s.heap.IsTuple l items)
    (turn : ∀ z, z ∈ items → ∀ s, I s → wpAny (model prog w) A.in1 (eqBool z y) (fun r s' => r = false ∧ I s') E s) (fin : ∀ s, I s → Q (.bool false) s) (h : I s) :
    wpAny (model prog w) A (compareOp .In y (.ref l)) Q E s := by
  obtain ⟨⟨cls, dd, data, sl⟩, ho, hc, n, hd⟩ := id hl
  simp only at hc hd
  subst hc hd
  show wpAny _ A (do return .bool (← contains (.ref l) y)) Q E s
  refine wpAny_bind (wpAny_contains_slot ⟨_, ho, rfl⟩ F.slot_tuple_contains (wpAny_mono (GQ.call_here F.slot_tuple_contains ⟨_, ho, rfl⟩ F.entry_tuple_contains (F.args_tuple_contains_2 _ _)
    (tuple_inG (R := wants (fun v s' => ∃ b, v = .bool b ∧ Q (.bool b) s') E) l items n dd sl y I turn (fun s' q => ⟨_, rfl, fin s' q⟩) ho h)) (fun v s' hv => ?_) fun _ _ e => e))
  obtain ⟨b, rfl, hq⟩ := hv
  exact wpAny_truthy_bool (wpAny_pure hq)
end
/-- the class at C is no subclass of these -/
structure OwnN (K : PySem.W.Frag) (C : Addr) : Prop where
  no : PySem.W.mroIn K C (.type "NoneType") = some false
  st : PySem.W.mroIn K C (.type "str") = some false
  tu : PySem.W.mroIn K C (.type "tuple") = some false
  li : PySem.W.mroIn K C (.type "list") = some false
  it : PySem.W.mroIn K C (.type "int") = some false
theorem Vals.of_mem : ∀ {xs : List V} {us : List Value}, Vals xs us → ∀ {u : Value}, u ∈ us → ∃ x, x ∈ xs ∧ RelV x u
  | _, _, .nil, _, h => by cases h
  | _, _, .cons r t, u, h => by
    rcases List.mem_cons.mp h with e | h
    · subst e
      exact ⟨_, List.mem_cons_self, r⟩
    · obtain ⟨x, hx, k⟩ := Vals.of_mem t h
      exact ⟨x, List.mem_cons_of_mem _ hx, k⟩
section
variable {X : Cx} {CX : CXT} {pins : List (Addr × Obj)} {σ : L2.St} {H : Hp} {s : Shared} {C g : Addr} {n : Nat} {sp : Sp} {E : XK}
theorem ins_obj {a dx : Addr} {fs : List (Str × V)} (I : Inv X pins σ H s) (h : H a = some (.ins C dx fs)) : ∃ od, PySem.W.InstAt s.heap a (PySem.W.instObj C dx) C od := by
  obtain ⟨mA, J, _⟩ := ins_get I.hok h
  obtain ⟨od, J, _⟩ := J.look
  exact ⟨_, J⟩
/-- kinds of values that an instance is compared with from the left -/
def OthV (K : PySem.W.Frag) (H : Hp) (z : V) : Prop := z = .non ∨ (∃ i, z = .str i) ∨ (∃ i, z = .int i) ∨ ∃ p ys, z = .ref p ∧ SqT K H p ys
def falseO (sp : Sp) (E : XK) (a : Addr) (z : V) (H : Hp) : Prop := sp [.ref a, z] H (fun v H' => v = .bl false ∧ H' = H) E
theorem rc_oth {A : Around} {a dx : Addr} {fs : List (Str × V)} {z : V} {u : Value} (O : OwnQ X.K C g) (N : OwnN X.K C) (FG : FnR X.prog X.w X.K X.mg X.base CX n g sp) (hr : Room n A) (e0 : Env0 X.prog X.w X.K X.mg X.base A X.stack s H) (hx : Passes CX X E)
    (I : Inv X pins σ H s) (ha : H a = some (.ins C dx fs)) (rz : RelV z u) (oz : OthV X.K H z) (q : falseO sp E a z H) :
    wpAny (model X.prog X.w) A (eqBool u (.ref a)) (fun r s' => r = false ∧ Inv X pins σ H s') X.xe s := by
  obtain ⟨od, J⟩ := ins_obj I ha
  have run : wpAny (model X.prog X.w) A (call (.ref g) [.ref a, u]) (PySem.W.CmpBack (fun v s' => ∃ r, v = .bool r ∧ r = false ∧ Inv X pins σ H s')) X.xe s := by
    refine wpAny_mono (wpAny_call (SlX.run_at (us := [.ref a, u]) (ws := [.ref a, z]) FG hr e0 hx I (.cons rfl (.cons rz .nil)) q)) (fun w s' y => ?_) fun _ _ x => x
    obtain ⟨z', H', I', ry, e1, e2⟩ := y
    subst e1
    subst e2
    cases (show w = Value.bool false from ry)
    exact ⟨false, rfl, rfl, I'⟩
  rcases oz with rfl | ⟨i, rfl⟩ | ⟨i, rfl⟩ | ⟨p, ys, rfl, hp⟩
  · cases (show u = Value.none from rz)
    exact eqBool_ins rfl (rc_eqR hr.units0 I.kIn J O (show s.TypeIs .none "NoneType" from rfl) F.slot_NoneType_eq N.no (call_gives F.slot_NoneType_eq rfl F.entry_NoneType_eq (F.args_NoneType_eq_2 _ _) (NoneType___eq___none_ref_0 a) ⟨rfl, rfl⟩) run)
  · obtain ⟨t, rfl⟩ := (show ∃ t, u = Value.str i t from rz)
    exact eqBool_ins rfl (rc_eqR hr.units0 I.kIn J O (show s.TypeIs (.str i t) "str" from rfl) F.slot_str_eq N.st (call_meets F.slot_str_eq rfl F.entry_str_eq (F.args_str_eq_2 _ _) (str_eq_ins i t a C dx) ⟨J.at_, rfl, rfl⟩) run)
  · obtain ⟨t, rfl⟩ := (show ∃ t, u = Value.int i t from rz)
    exact eqBool_ins rfl (rc_eqR hr.units0 I.kIn J O (show s.TypeIs (.int i t) "int" from rfl) F.slot_int_eq N.it (call_meets F.slot_int_eq rfl F.entry_int_eq (F.args_int_eq_2 _ _) (int_eq_ins i t a C dx) ⟨J.at_, rfl, rfl⟩) run)
  · cases (show u = Value.ref p from rz)
    obtain ⟨its, rv, ⟨o, ho, hc, _⟩, _⟩ := I.tuple hp
    have hne : (Value.ref p == Value.ref a) = false := by
      have : p ≠ a := by
        rintro rfl
        have e := J.at_
        rw [ho] at e
        cases e
        cases hc
      simp [this]
    exact eqBool_ins hne (rc_eqR hr.units0 I.kIn J O (show s.TypeIs (.ref p) "tuple" from ⟨_, ho, hc⟩) F.slot_tuple_eq N.tu (call_meets F.slot_tuple_eq ⟨_, ho, hc⟩ F.entry_tuple_eq (F.args_tuple_eq_2 _ _) (tuple_eq_ins p a C dx N.tu) ⟨I.kIn, J.at_, rfl, rfl⟩) run)
/-- x in a tuple of other things -/
def rInO (K : PySem.W.Frag) (C : Addr) (sp : Sp) (E : XK) : R2 := fun x y H Q => ∃ a dx fs t xs, x = .ref a ∧ H a = some (.ins C dx fs) ∧ y = .ref t ∧ SqT K H t xs ∧ (∀ z ∈ xs, OthV K H z ∧ falseO sp E a z H) ∧ Q (.bl false) H
theorem op_inO (O : OwnQ X.K C g) (N : OwnN X.K C) (F : FnR X.prog X.w X.K X.mg X.base CX n g sp) (hr : Room (n + 2) X.A) (hx : Passes CX X E) : OpR X (compareOp .In) (rInO X.K C sp E) := by
  intro pins s σ H x y v u Q I rx ry h
  obtain ⟨a, dx, fs, t, xs, rfl, ha, rfl, ht, hz, q⟩ := h
  cases (show v = Value.ref a from rx)
  cases (show u = Value.ref t from ry)
  obtain ⟨its, rv, e, _⟩ := I.tuple ht
  have hr1 : Room n X.A.in1 := Room.in1 (hr.mono (by omega))
  refine in_tupG (fun s' => Inv X pins σ H s') e (fun z hm s' I' => ?_) (fun s' I' => ⟨.bl false, H, I', rfl, q⟩) I
  obtain ⟨zz, hzz, rz⟩ := Vals.of_mem rv (by simpa using hm)
  exact rc_oth O N F hr1 I'.env0.in1 hx I' ha rz (hz zz hzz).1 (hz zz hzz).2
end
end Rs
/-! What a class with its own __eq__ is to isinstance; any value in a tuple of texts. -/
namespace Rs
open PySem PySem.Spec PyProof.Rows L2
theorem fnR {P : Program} {w : World} {K : PySem.W.Frag} {mg : Str → Option Value} {base : Heap} {CX : CXT} {k : Nat} {f : Addr} {fd : FuncData} {ps : List Str} {sp : Sp} (F : FnOk P w K mg base CX k f fd ps sp) (hb : Binds K fd ps []) : FnR P w K mg base CX k f sp :=
  (F.raw hb .nil).imp fun vs H Q E h => by
    show sp (vs ++ []) H Q E
    rw [List.append_nil]
    exact h
structure OwnI (K : PySem.W.Frag) (C : Addr) : Prop where
  cl : (PySem.W.clsIn K C).isSome = true
  tp : PySem.W.typeIn K (.ref C) = some (.type "type")
  ca : PySem.W.findIn K (.ref C) "__class__" = some (some (.builtin "object.__class__"))
  sp : PySem.W.specialIn K (.builtin "object.__class__") "__get__" = some (some (.builtin "getset_descriptor.__get__"))
  tk : PySem.W.takesIn K (.builtin "object.__class__") = some true
  mo : PySem.W.mroIn K C (.type "object") = some true
theorem OwnI.ty {K : PySem.W.Frag} {C a dx : Addr} {fs : List (Str × V)} {H : Hp} (h : OwnI K C) (c : Cls K C) (e : H a = some (.ins C dx fs)) : TyX K H (.ref a) (.ref C) := .base (.ins e c h.ca h.sp h.tk h.mo)
theorem kit_self {K : PySem.W.Frag} {C : Addr} : PySem.W.kitOne K (.ref C) (.ref C) = some true := by simp [PySem.W.kitOne]
theorem OwnI.no {K : PySem.W.Frag} {C : Addr} {T : String} {ns : List String} (h : OwnI K C) (e : fastBuiltinMro T = some (ns.map Value.type)) : PySem.W.kitOne K (.type T) (.ref C) = some false := by
  have h1 : PySem.W.subIn K (.type T) (.ref C) = some false := by
    show (fastBuiltinMro T).map (·.contains (.ref C)) = some false
    rw [e]
    simp
  unfold PySem.W.kitOne PySem.W.kitCls
  simp [h.cl, h.tp, h1]
/-- the built-in kinds that stand beside own instances -/
inductive BT : String → Prop
  | non : BT "NoneType"
  | bl : BT "bool"
  | int : BT "int"
  | str : BT "str"
  | lst : BT "list"
  | tup : BT "tuple"
theorem BT.nf {K : PySem.W.Frag} {C : Addr} {T : String} (h : BT T) : PySem.W.notFirst K C (.type T) = true := by
  cases h
  · exact nf_none
  · exact nf_bool
  · exact nf_int
  · exact nf_str
  · exact nf_list
  · exact nf_tuple
theorem OwnI.bt {K : PySem.W.Frag} {C : Addr} {T : String} (h : OwnI K C) (b : BT T) : PySem.W.kitOne K (.type T) (.ref C) = some false := by
  cases b
  · exact h.no (ns := ["NoneType", "object"]) (by decide +kernel)
  · exact h.no (ns := ["bool", "int", "object"]) (by decide +kernel)
  · exact h.no (ns := ["int", "object"]) (by decide +kernel)
  · exact h.no (ns := ["str", "object"]) (by decide +kernel)
  · exact h.no (ns := ["list", "object"]) (by decide +kernel)
  · exact h.no (ns := ["tuple", "object"]) (by decide +kernel)
theorem Sh.bt {K : PySem.W.Frag} {b : Addr} {H : Hp} {v : V} (h : Sh b H v) : ∃ T, TyX K H v (.type T) ∧ BT T := by
  cases v with
  | non => exact ⟨_, .base .non, .non⟩
  | bl x => exact ⟨_, .base (.bl x), .bl⟩
  | int x => exact ⟨_, .base (.int x), .int⟩
  | str x => exact ⟨_, .base (.str x), .str⟩
  | ref a =>
    obtain ⟨ne, ⟨xs, e⟩ | ⟨xs, e⟩⟩ := h
    · exact ⟨_, .base (.lst e), .lst⟩
    · exact ⟨_, .base (.tup e), .tup⟩
  | byt _ => exact h.elim
  | flt _ => exact h.elim
  | ty _ => exact h.elim
/-- whether a value is one of some texts -/
def isOne (ys : List Str) : V → Bool
  | .str x => ys.any (· == x)
  | _ => false
def eqText (v : V) : Value → Bool
  | .str c _ => (match v with
    | .str x => c == x
    | _ => false)
  | _ => false
theorem any_text {v : V} : ∀ {ys : List Str} {us : List Value}, Vals (ys.map V.str) us → us.any (eqText v) = isOne ys v
  | [], _, .nil => by cases v <;> rfl
  | y :: ys, _, .cons r t => by
    obtain ⟨k, rfl⟩ := r
    have ih := any_text (v := v) t
    rw [List.any_cons, ih]
    cases v <;> simp [eqText, isOne]
section
variable {X : Cx} {pins : List (Addr × Obj)} {σ : L2.St} {H : Hp} {s : Shared}
theorem text_eqAt {A : Around} {b : Addr} {v : V} {u : Value} (hu : A.units < cLine) (I : Inv X pins σ H s) (h : Sh b H v) (rv : RelV v u) (y : Str) (t : Tok) : SeqAt.EqAt A s (.str y t) u (eqText v (.str y t)) := by
  cases v with
  | non => cases (show u = Value.none from rv); exact SeqAt.EqAt.str_none y t
  | bl x => cases (show u = Value.bool x from rv); exact SeqAt.EqAt.str_bool y t x
  | int i => obtain ⟨k, rfl⟩ := (show ∃ k, u = Value.int i k from rv); exact SeqAt.EqAt.str_int y t i k
  | str x => obtain ⟨k, rfl⟩ := (show ∃ k, u = Value.str x k from rv); exact SeqAt.EqAt.str_str y t x k
  | ref a =>
    cases (show u = Value.ref a from rv)
    obtain ⟨ne, ⟨xs, e⟩ | ⟨xs, e⟩⟩ := h
    · obtain ⟨its, r, pl, _⟩ := I.list (SqL.of e)
      exact SeqAt.EqAt.str_list y t pl.isList hu
    · obtain ⟨its, r, pl, _⟩ := I.tuple (SqT.of e)
      exact SeqAt.EqAt.str_tuple y t pl hu
  | byt _ => exact h.elim
  | flt _ => exact h.elim
  | ty _ => exact h.elim
/-- x (not) in a tuple of texts -/
def rInSh (K : PySem.W.Frag) (neg : Bool) : R2 := fun x y H Q => ∃ b p ys, y = .ref p ∧ SqT K H p (ys.map V.str) ∧ Sh b H x ∧ Q (.bl (if neg then !isOne ys x else isOne ys x)) H
theorem mem_text {b : Addr} {A : Around} {v : V} {u : Value} (hu : A.units < cLine) (I : Inv X pins σ H s) (h : Sh b H v) (rv : RelV v u) : ∀ {ys : List Str} {us : List Value}, Vals (ys.map V.str) us → ∀ z ∈ us, SeqAt.EqAt A s z u (eqText v z)
  | [], _, .nil, _, hz => by cases hz
  | y :: ys, _, .cons r t, z, hz => by
    obtain ⟨k, rfl⟩ := r
    rcases List.mem_cons.mp hz with e | hz
    · subst e
      exact text_eqAt hu I h rv y k
    · exact mem_text hu I h rv t z hz
theorem op_inSh (hu : X.A.units + 64 < cLine) : OpR X (compareOp .In) (rInSh X.K false) := by
  intro pins s σ H x y v u Q I rx ry h
  obtain ⟨b, p, ys, rfl, hq, hs, q⟩ := h
  cases ry
  obtain ⟨its, rv, pl, _⟩ := I.tuple hq
  have hu1 : X.A.in1.units < cLine := by show X.A.units + 1 < cLine; omega
  refine SeqAt.in_tupleAt (eqText x) pl (fun z hz => mem_text hu1 I hs rx rv z (by simpa using hz)) ⟨.bl _, H, I, rfl, ?_⟩
  rw [show its.toArray.any (eqText x) = its.any (eqText x) by simp, any_text rv]
  exact q
theorem op_notInSh (hu : X.A.units + 64 < cLine) : OpR X (compareOp .NotIn) (rInSh X.K true) := by
  intro pins s σ H x y v u Q I rx ry h
  obtain ⟨b, p, ys, rfl, hq, hs, q⟩ := h
  cases ry
  obtain ⟨its, rv, pl, _⟩ := I.tuple hq
  have hu1 : X.A.in1.units < cLine := by show X.A.units + 1 < cLine; omega
  refine SeqAt.notIn_tupleAt (eqText x) pl (fun z hz => mem_text hu1 I hs rx rv z (by simpa using hz)) ⟨.bl _, H, I, rfl, ?_⟩
  rw [show its.toArray.any (eqText x) = its.any (eqText x) by simp, any_text rv]
  exact q
end
end Rs
/-! == of tuples whose items are compared by an own __eq__, with either answer. -/
namespace Rs
open PySem PySem.Spec PyProof.Rows L2 GQ

open MeetsSeq MeetsSeq2 MeetsSeq3 SeqRoads2
section
variable {prog : Program} {w : World} {A : Around} {R : Result → Shared → Prop}
/-- the items are looked at in turn: f i tells whether the i-th two are equal -/
theorem tuple_eqB (l b : Addr) (xs ys : Array Value) (n m : Nat) (dd de : Option Addr) (sl sm : Array (Option Value)) (f : Nat → Bool) (I : Nat → Shared → Prop)
    (turn : ∀ i (h1 : i < xs.size) (h2 : i < ys.size) s, I i s → wpAny (model prog w) A.in1 (eqBool xs[i] ys[i]) (fun r s' => r = f i ∧ I (i + 1) s') (fun e s' => R (.error e) s') s)
    (good : ∀ s, (∀ i, i < xs.size → i < ys.size → f i = true) → I (min xs.size ys.size) s → R (.ok (.ret (.bool (decide (xs.size = ys.size))))) s)
    (bad : ∀ i s, i < xs.size → i < ys.size → f i = false → I (i + 1) s → R (.ok (.ret (.bool false))) s) {s : Shared}
    (hl : s.heap.get? l = some { cls := .type "tuple", dict := dd, data := .seq xs n, slots := sl }) (hb : s.heap.get? b = some { cls := .type "tuple", dict := de, data := .seq ys m, slots := sm }) (h : I 0 s) :
    wpAny (model prog w) A.in1 (Builtin.«tuple.__eq__» ⟨[.ref l, .ref b], []⟩) (FinOf prog w A R) (fun e s' => R (.error e) s') s := by
  have sub := AutoSeq1.sub_tuple_tuple
  have len : (xs.toList.zip ys.toList).length = min xs.size ys.size := by simp
  have start := h
  obtain ⟨hp, g, d, tk, os⟩ := s
  wp_walk using AutoSeq1.wpAny_loadPart' hl, AutoSeq1.wpAny_loadPart' hb, wpAny_forIn_list _ (fun rest st s' => st.1 = none ∧ ∃ i, rest = (xs.toList.zip ys.toList).drop i ∧ i ≤ min xs.size ys.size ∧ I i s' ∧ ∀ j, j < i → f j = true) _
  case turn =>
    rintro ⟨y, x⟩ rest st s' ⟨none0, i, left, le, inv, all⟩
    have lt : i < (xs.toList.zip ys.toList).length := by
      rcases Nat.lt_or_ge i (xs.toList.zip ys.toList).length with c | c
      · exact c
      · rw [List.drop_of_length_le c] at left; cases left
    have i1 : i < xs.size := by omega
    have i2 : i < ys.size := by omega
    rw [List.drop_eq_getElem_cons lt] at left
    injection left with both more
    have ey : y = xs[i] := by have := congrArg Prod.fst both; simpa using this
    have ex : x = ys[i] := by have := congrArg Prod.snd both; simpa using this
    subst ey ex
    refine wpAny_bind (wpAny_mono (turn i i1 i2 s' inv) (fun r s2 q2 => ?_) fun _ _ x => x)
    obtain ⟨er, q2⟩ := q2
    subst er
    cases c : f i with
    | true =>
      wp_walk
      exact ⟨rfl, i + 1, more, by omega, q2, fun j hj => by
        by_cases e : j = i
        · rw [e]; exact c
        · exact all j (by omega)⟩
    | false =>
      have no := bad i s2 i1 i2 c q2
      wp_walk
      exact no
  case fin =>
    rintro ⟨b1, b2⟩ s' ⟨none0, i, left, le, inv, all⟩
    simp only at none0
    subst none0
    have ge : (xs.toList.zip ys.toList).length ≤ i := by
      rcases Nat.lt_or_ge i (xs.toList.zip ys.toList).length with c | c
      · rw [List.drop_eq_getElem_cons c] at left; cases left
      · exact c
    have e : i = min xs.size ys.size := by omega
    subst e
    have yes := good s' (fun j a b => all j (by omega)) inv
    wp_walk
    have e2 : Builtin.Tuple.tupleCompareSizes CmpOp.Eq xs.size ys.size = .bool (decide (xs.size = ys.size)) := by
      simp only [Builtin.Tuple.tupleCompareSizes]
      congr 1
    rw [e2]
    exact yes
  case h =>
    exact ⟨rfl, 0, rfl, Nat.zero_le _, start, fun j hj => by omega⟩
end
section
variable {prog : Program} {w : World} {A : Around} {E : Value → Shared → Prop} {s : Shared}
theorem rc_tupB {l b : Addr} {xs ys : Array Value} {Q : Value → Shared → Prop} (room : A.units < cLine) (f : Nat → Bool) (I : Nat → Shared → Prop) (hl : s.heap.IsTuple l xs) (hb : s.heap.IsTuple b ys)
    (turn : ∀ i (h1 : i < xs.size) (h2 : i < ys.size) s, I i s → wpAny (model prog w) A.in1 (eqBool xs[i] ys[i]) (fun r s' => r = f i ∧ I (i + 1) s') E s)
    (good : ∀ s, (∀ i, i < xs.size → i < ys.size → f i = true) → I (min xs.size ys.size) s → Q (.bool (decide (xs.size = ys.size))) s)
    (bad : ∀ i s, i < xs.size → i < ys.size → f i = false → I (i + 1) s → Q (.bool false) s) (h : I 0 s) : wpAny (model prog w) A (richCompare .Eq (.ref l) (.ref b)) Q E s := by
  obtain ⟨⟨c1, d1, t1, l1⟩, at1, k1, n1, q1⟩ := id hl
  obtain ⟨⟨c2, d2, t2, l2⟩, at2, k2, n2, q2⟩ := id hb
  simp only at k1 q1 k2 q2
  subst k1 q1 k2 q2
  refine wpAny_richCompare_same_room (op := .Eq) ⟨_, at1, rfl⟩ ⟨_, at2, rfl⟩ F.slot_tuple_eq (call_here F.slot_tuple_eq ⟨_, at1, rfl⟩ F.entry_tuple_eq (F.args_tuple_eq_2 _ _) ?_) room
  exact tuple_eqB (R := wants (fun v s' => v ≠ .notImplemented ∧ Q v s') E) l b xs ys n1 n2 d1 d2 l1 l2 f I turn (fun s' a q => ⟨(fun x => nomatch x), good s' a q⟩) (fun i s' a c e q => ⟨(fun x => nomatch x), bad i s' a c e q⟩) at1 at2 h
end
/-- two values, and whether they are equal -/
abbrev EqvB := V → V → Bool → Hp → Prop
def MonB (D : EqvB) : Prop := ∀ x y r H H', Ext H H' → D x y r H → D x y r H'
def EqB (X : Cx) (n : Nat) (D : EqvB) : Prop := ∀ (A : Around) (pins : List (Addr × Obj)) (s : Shared) (σ : L2.St) (H : Hp) (x y : V) (r : Bool) (u v : Value), Sub X n A → Inv X pins σ H s → RelV x u → RelV y v → D x y r H →
  wpAny (model X.prog X.w) A (eqBool u v) (fun q s' => q = r ∧ ∃ H', Inv X pins σ H' s' ∧ Ext H H') X.xe s
def RcB (X : Cx) (n : Nat) (D : EqvB) : Prop := ∀ (A : Around) (pins : List (Addr × Obj)) (s : Shared) (σ : L2.St) (H : Hp) (x y : V) (r : Bool) (u v : Value), Sub X n A → Inv X pins σ H s → RelV x u → RelV y v → D x y r H →
  wpAny (model X.prog X.w) A (richCompare .Eq u v) (fun q s' => q = .bool r ∧ ∃ H', Inv X pins σ H' s' ∧ Ext H H') X.xe s
/-- item by item: the i-th two are equal just if f i -/
def PrsB (D : EqvB) (xs ys : List V) (r : Bool) (H : Hp) : Prop := ∃ f : Nat → Bool, (∀ i x y, xs[i]? = some x → ys[i]? = some y → D x y (f i) H) ∧ (r = true ↔ xs.length = ys.length ∧ ∀ i, i < xs.length → i < ys.length → f i = true)
def DTupB (K : PySem.W.Frag) (D : EqvB) : EqvB := fun x y r H => ∃ a b xs ys, x = .ref a ∧ y = .ref b ∧ SqT K H a xs ∧ SqT K H b ys ∧ PrsB D xs ys r H ∧ (a = b → r = true)
theorem monB_tup {K : PySem.W.Frag} {D : EqvB} (m : MonB D) : MonB (DTupB K D) := fun x y r H H' e d => by
  obtain ⟨a, b, xs, ys, hx, hy, h1, h2, ⟨f, hf, hr⟩, own⟩ := d
  exact ⟨a, b, xs, ys, hx, hy, h1.ext e, h2.ext e, ⟨f, fun i x y a b => m _ _ _ _ _ e (hf i x y a b), hr⟩, own⟩
section
variable {X : Cx} {n : Nat} {D : EqvB}
theorem rcB_tup (m : MonB D) (h : EqB X n D) : RcB X (n + 1) (DTupB X.K D) := by
  intro A pins s σ H x y r u v sb I rx ry d
  obtain ⟨a, b, xs, ys, rfl, rfl, ha, hb, ⟨f, hf, hr⟩, _⟩ := d
  cases rx
  cases ry
  obtain ⟨its, r1, e1, _⟩ := I.tuple ha
  obtain ⟨jts, r2, e2, _⟩ := I.tuple hb
  have l1 := r1.length
  have l2 := r2.length
  refine rc_tupB sb.room.units0 f (fun _ s' => LoopI X pins σ H s') e1 e2 (fun i h1 h2 s' q => ?_) (fun s' all q => ?_) (fun i s' h1 h2 no q => ?_) ⟨H, I, Ext.rfl'⟩
  · obtain ⟨H1, I1, x1⟩ := q
    have c1 : i < its.length := by simpa using h1
    have c2 : i < jts.length := by simpa using h2
    obtain ⟨u, hu, ru⟩ := r1.get (List.getElem?_eq_getElem (show i < xs.length by omega))
    obtain ⟨v, hv, rv⟩ := r2.get (List.getElem?_eq_getElem (show i < ys.length by omega))
    have g1 : its.toArray[i] = u := by
      rw [List.getElem?_eq_getElem c1] at hu
      simpa using Option.some.inj hu
    have g2 : jts.toArray[i] = v := by
      rw [List.getElem?_eq_getElem c2] at hv
      simpa using Option.some.inj hv
    rw [g1, g2]
    refine wpAny_mono (h A.in1 pins s' σ H1 _ _ (f i) u v sb.in1 I1 ru rv (m _ _ _ _ _ x1 (hf i _ _ (List.getElem?_eq_getElem (by omega)) (List.getElem?_eq_getElem (by omega))))) (fun q s2 z => ?_) fun _ _ x => x
    obtain ⟨eq, H2, I2, x2⟩ := z
    exact ⟨eq, H2, I2, x1.trans x2⟩
  · refine ⟨?_, q⟩
    rw [List.size_toArray, List.size_toArray, ← l1, ← l2]
    congr 1
    rw [Bool.eq_iff_iff, decide_eq_true_eq, hr]
    exact ⟨fun e => ⟨e, fun i a b => all i (by simpa [← l1] using a) (by simpa [← l2] using b)⟩, fun e => e.1⟩
  · refine ⟨?_, q⟩
    congr 1
    symm
    rw [← Bool.not_eq_true, hr]
    rintro ⟨_, all⟩
    rw [all i (by simpa [← l1] using h1) (by simpa [← l2] using h2)] at no
    cases no
/-- from the comparison of references to == inside a tuple -/
theorem RcB.eqB (h : RcB X n D) (hr : ∀ x y r H, D x y r H → ∃ a b, x = .ref a ∧ y = .ref b ∧ (a = b → r = true)) : EqB X n D := by
  intro A pins s σ H x y r u v sb I rx ry d
  obtain ⟨a, b, rfl, rfl, own⟩ := hr _ _ _ _ d
  cases rx
  cases ry
  by_cases ab : a = b
  · have e := own ab
    subst ab
    subst e
    exact SeqAt.EqAt.same (A := A) (s := s) (.ref a) X.prog X.w X.xe _ ⟨rfl, H, I, Ext.rfl'⟩
  · refine eqBool_refG ab (wpAny_mono (h A pins s σ H (.ref a) (.ref b) r _ _ sb I rfl rfl d) (fun q s' z => ?_) fun _ _ x => x)
    obtain ⟨e, z⟩ := z
    exact ⟨r, e, rfl, z⟩
/-- instances of the class at C with an own ==: S tells the answer -/
def DInsB (C : Addr) (S : Addr → Addr → Bool → Hp → Prop) : EqvB := fun x y r H => ∃ a b dx dy fs gs, x = .ref a ∧ y = .ref b ∧ H a = some (.ins C dx fs) ∧ H b = some (.ins C dy gs) ∧ S a b r H ∧ (a = b → r = true)
theorem monB_ins {C : Addr} {S : Addr → Addr → Bool → Hp → Prop} (m : ∀ a b r H H', Ext H H' → S a b r H → S a b r H') : MonB (DInsB C S) := fun x y r H H' e d => by
  obtain ⟨a, b, dx, dy, fs, gs, hx, hy, h1, h2, z, own⟩ := d
  exact ⟨a, b, dx, dy, fs, gs, hx, hy, e _ _ h1, e _ _ h2, m _ _ _ _ _ e z, own⟩
theorem rcB_ins {C g : Addr} {S : Addr → Addr → Bool → Hp → Prop} {sp : Sp} (O : OwnQ X.K C g) (F : FnR X.prog X.w X.K X.mg X.base CX0 n g sp) (hx : Passes CX0 X E0)
    (ask : ∀ a b r H, S a b r H → sp [.ref a, .ref b] H (fun v H' => v = .bl r ∧ Ext H H') E0) : RcB X n (DInsB C S) := by
  intro A pins s σ H x y r u v sb I rx ry d
  obtain ⟨a, b, dx, dy, fs, gs, rfl, rfl, ha, hb, z, _⟩ := d
  cases rx
  cases ry
  obtain ⟨ox, od, J⟩ := ins_at I ha
  obtain ⟨oy, oe, Jb⟩ := ins_at I hb
  obtain ⟨m, hF⟩ := I.fr
  refine PySem.W.cmp_K (op := .Eq) (tb := .ref C) sb.room.units0 hF I.ok.mod.kin J Jb.type notFirst_self O.eq O.fn ?_
  have e0 : Env0 X.prog X.w X.K X.mg X.base A X.stack s H := by
    have e := I.env0
    exact ⟨by rw [sb.fr]; exact e.frames, e.mod, e.bs, e.bsz, e.funs, e.frf, e.hok, e.bare⟩
  refine wpAny_mono (wpAny_call (SlX.run_at (us := [.ref a, .ref b]) (ws := [.ref a, .ref b]) F sb.room e0 hx I (.cons rfl (.cons rfl .nil)) (ask a b r H z))) (fun w s' q => ?_) fun _ _ x => x
  obtain ⟨z', H', I', rz, ez, ex⟩ := q
  subst ez
  cases (show w = Value.bool r from rz)
  exact ⟨rfl, H', I', ex⟩
/-- x == y as an expression -/
def rEqB (D : EqvB) : R2 := fun x y H Q => ∃ r, D x y r H ∧ ∀ H', Ext H H' → Q (.bl r) H'
theorem op_eqB (h : RcB X n D) (hr : Room n X.A) : OpR X (compareOp .Eq) (rEqB D) := by
  intro pins s σ H x y v u Q I rx ry hq
  obtain ⟨r, d, q⟩ := hq
  show wpAny (model X.prog X.w) X.A (richCompare .Eq v u) (EP X pins σ Q) X.xe s
  refine wpAny_mono (h X.A pins s σ H x y r v u ⟨hr, rfl⟩ I rx ry d) (fun w s' z => ?_) fun _ _ x => x
  obtain ⟨e, H', I', x⟩ := z
  subst e
  exact ⟨.bl r, H', I', rfl, q H' x⟩
end
end Rs
/-! Dicts of ints as sets; comprehensions over anything walked; a bool > an int; values by two levels of shape. -/
namespace Rs
open PySem PySem.Spec PyProof.Rows L2
/-! ### a bool > an int -/
section
variable {prog : Program} {w : World} {A : Around} {E : Value → Shared → Prop} {s : Shared}
theorem gives_gt_bool (c : Bool) (j : Int) (u : Tok) : Gives (Builtin.«int.__gt__» ⟨[.bool c, .int j u], []⟩) (.val (Value.bool (decide (j < (if c = true then (1 : Int) else 0))))) :=
  .of_wp fun M A E s Q h => by
    obtain ⟨hp, g, d, tk, os⟩ := s
    wp_walk
    exact ⟨_, rfl, h⟩
theorem gt_bool_int {c : Bool} {j : Int} {u : Tok} {Q : Value → Shared → Prop} (h : Q (.bool (decide (j < (if c = true then (1 : Int) else 0)))) s) : wpAny (model prog w) A (compareOp .Gt (.bool c) (.int j u)) Q E s := by
  show wpAny _ _ (richCompare .Gt (.bool c) (.int j u)) Q E s
  exact wpAny_richCompare_left (op := .Gt) (Ta := "bool") (Tb := "int") rfl (typeIs_int s j u) (by decide) F.sub_int_bool F.slot_bool_gt
    (call_gives F.slot_bool_gt rfl F.entry_int_gt (F.args_int_gt_2 _ _) (gives_gt_bool c j u) ⟨nofun, h⟩)
end
/-- an int or a bool > an int -/
def gtI (v : V) (j : Int) : Bool := match v with
  | .int i => decide (j < i)
  | .bl c => decide (j < (if c = true then (1 : Int) else 0))
  | _ => false
def rGtI : R2 := fun x y H Q => ∃ j, y = .int j ∧ ((∃ i, x = .int i) ∨ ∃ c, x = .bl c) ∧ Q (.bl (gtI x j)) H
theorem op_gtI {X : Cx} : OpR X (compareOp .Gt) rGtI := by
  intro pins s σ H x y v u Q I rx ry h
  obtain ⟨j, rfl, ⟨i, rfl⟩ | ⟨c, rfl⟩, q⟩ := h
  · exact op_gt pins s σ H _ _ v u Q I rx ry ⟨i, j, rfl, rfl, q⟩
  · obtain ⟨t, rfl⟩ := ry
    cases (show v = Value.bool c from rx)
    exact gt_bool_int ⟨.bl _, H, I, rfl, q⟩
/-! ### y in a dict -/
def rInDict : R2 := fun y x H Q => ∃ a o, x = .ref a ∧ DGet H a y o ∧ Q (.bl o.isSome) H
theorem op_inDict {X : Cx} (hu : X.A.units + 1 < cLine) : OpR X (compareOp .In) rInDict := by
  intro pins s σ H y x v u Q I ry rx h
  obtain ⟨a, o, rfl, g, q⟩ := h
  cases (show u = Value.ref a from rx)
  exact d_in hu I g ry fun s3 I3 => ⟨.bl o.isSome, H, I3, rfl, q⟩
/-- the int keys of a dict are just these -/
def KeysI (kvs : List (Key × V)) (ns : List Int) : Prop := (∀ i : Int, (valV kvs (.inl i)).isSome = decide (i ∈ ns)) ∧ kvs.length ≤ ns.length
theorem KeysI.nil : KeysI [] [] := ⟨fun i => by simp [valV], Nat.le_refl _⟩
theorem KeysI.snoc {kvs : List (Key × V)} {ns : List Int} (h : KeysI kvs ns) (i : Int) (v : V) : KeysI (putK kvs (.inl i) v) (ns ++ [i]) := by
  refine ⟨fun j => ?_, ?_⟩
  · rw [valV_put]
    by_cases e : j = i
    · subst e
      simp
    · have e' : ¬ ((Sum.inl j : Key) = .inl i) := fun q => e (Sum.inl.inj q)
      rw [if_neg e', h.1 j]
      simp [e]
  · have l1 := length_putK kvs (Sum.inl i : Key) v
    have l2 := h.2
    rw [List.length_append]
    show _ ≤ ns.length + 1
    omega
theorem KeysI.get {kvs : List (Key × V)} {ns : List Int} (h : KeysI kvs ns) {H : Hp} {a : Addr} (e : H a = some (.dK kvs)) (i : Int) : ∃ o, DGet H a (.int i) o ∧ o.isSome = decide (i ∈ ns) :=
  ⟨_, DGet.k (k := (.inl i : Key)) e, h.1 i⟩
/-- a dict of ints stands at D -/
def SetI (H : Hp) (D : Addr) (ns : List Int) : Prop := ∃ kvs, H D = some (.dK kvs) ∧ KeysI kvs ns
theorem SetI.get {H : Hp} {D : Addr} {ns : List Int} (h : SetI H D ns) (i : Int) : ∃ o, DGet H D (.int i) o ∧ o.isSome = decide (i ∈ ns) := by
  obtain ⟨kvs, e, k⟩ := h
  exact k.get e i
theorem SetI.same {H H' : Hp} {D : Addr} {ns : List Int} (h : SetI H D ns) (s : Same H H') : SetI H' D ns := by
  obtain ⟨kvs, e, k⟩ := h
  exact ⟨kvs, s _ _ e, k⟩
/-- a dict comprehension over anything walked -/
theorem dc_it {J : It} {n : Nat} {G : Hp → Prop} {Y : Nat → Hp → V → Hp → Prop} (wk : Walk J n G Y) {g : TG} {tt : TT} {tk tv : TE} {vs : List Nat} {σ : L2.St} {H0 : Hp} {D : Addr} {Qe : Hp → Prop} (R : Nat → Hp → Prop) (start : R 0 (upd H0 D (.dK [])))
    (stay : ∀ j H, j ≤ n → R j H → G H)
    (turn : ∀ j x H H', j < n → R j H → Y j H x H' → g x (wipe σ vs) H' fun σ1 H1 => wipe σ1 vs = wipe σ vs ∧ tt σ1 H1 fun c H2 =>
      if c = true then tk σ1 H2 fun y H3 => tv σ1 H3 fun z H4 => ∃ ks k, y = kV k ∧ H4 D = some (.dK ks) ∧ ks.length < sizeLine ∧ R (j + 1) (upd H4 D (.dK (putK ks k z))) else R (j + 1) H2)
    (fin : ∀ H, R n H → Qe H) :
    ∃ W : Nat → Nat → Hp → Prop, (∃ m, W 0 m (upd H0 D (.dK []))) ∧ ∀ j m H, W j m H → (J.stop j H ∧ Qe H) ∨
      (J.go j H ∧ ∃ N : Hp → Prop, (∀ H', N H' → ∃ m', m' < m ∧ W (j + 1) m' H') ∧ ∀ x H', J.yld j H x H' → g x (wipe σ vs) H' fun σ1 H1 => wipe σ1 vs = wipe σ vs ∧ tt σ1 H1 fun c H2 =>
        if c = true then tk σ1 H2 fun y H3 => tv σ1 H3 fun z H4 => ∃ ks k, y = kV k ∧ H4 D = some (.dK ks) ∧ ks.length < sizeLine ∧ N (upd H4 D (.dK (putK ks k z))) else N H2) := by
  refine ⟨fun j m H => m + j = n ∧ R j H, ⟨n, rfl, start⟩, fun j m H hw => ?_⟩
  obtain ⟨em, hR⟩ := hw
  have gH := stay j H (by omega) hR
  cases m with
  | zero =>
    obtain rfl : j = n := by omega
    exact .inl ⟨wk.stops H gH, fin H hR⟩
  | succ m =>
    have lt : j < n := by omega
    refine .inr ⟨wk.goes j H lt gH, R (j + 1), fun H' hN => ⟨m, Nat.lt_succ_self m, by omega, hN⟩, fun x H' hy => ?_⟩
    exact turn j x H H' lt hR (wk.yields j H x H' lt gH hy)
/-! ### more of what stays -/
theorem But.free {b p : Addr} {H H' : Hp} (k : But b H H') (ne : p ≠ b) (h : H' p = none) : H p = none := by
  cases e : H p with
  | none => rfl
  | some o =>
    have := k p o ne e
    rw [h] at this
    cases this
/-- values told by their own shape and that of their things -/
def Tw (b : Addr) (H : Hp) : V → Prop
  | .ref a => a ≠ b ∧ ∃ xs, (H a = some (.lst xs) ∨ H a = some (.tup xs)) ∧ xs.length ≤ 100 ∧ ∀ x ∈ xs, Sh b H x
  | v => Sh b H v
theorem Tw.sh {b : Addr} {H : Hp} {v : V} (h : Tw b H v) : Sh b H v := by
  cases v with
  | ref a =>
    obtain ⟨n, xs, e | e, _⟩ := h
    · exact ⟨n, .inl ⟨xs, e⟩⟩
    · exact ⟨n, .inr ⟨xs, e⟩⟩
  | _ => exact h
theorem Tw.but {b : Addr} {H H' : Hp} {v : V} (h : Tw b H v) (k : But b H H') : Tw b H' v := by
  cases v with
  | ref a =>
    obtain ⟨n, xs, e, l, q⟩ := h
    exact ⟨n, xs, e.imp (k _ _ n) (k _ _ n), l, fun x hx => (q x hx).but k⟩
  | _ => exact h
theorem Tw.set {b t : Addr} {H : Hp} {v : V} {xs ys : List V} (h : Tw b H v) (e : H t = some (.lst xs)) (ne : v ≠ .ref t) : Tw b (upd H t (.lst ys)) v := by
  cases v with
  | ref a =>
    obtain ⟨n, zs, f, l, q⟩ := h
    have na : a ≠ t := fun z => ne (by rw [z])
    exact ⟨n, zs, by rw [upd_ne na]; exact f, l, fun x hx => (q x hx).set e⟩
  | _ => exact h
/-- a value that is no older object -/
def NewV (H : Hp) (v : V) : Prop := ∀ a, v = .ref a → H a = none
theorem NewV.ne {H : Hp} {v : V} {t : Addr} {o : HO} (h : NewV H v) (e : H t = some o) : v ≠ .ref t := fun z => by
  have := h t z
  rw [e] at this
  cases this
theorem NewV.but {b : Addr} {H H' : Hp} {v : V} (h : NewV H' v) (k : But b H H') (s : Sh b H' v) : NewV H v := fun a e => by
  subst e
  exact k.free s.1 (h a rfl)
/-! ### the things of a list or a tuple -/
def seqV (H : Hp) : V → Option (List V)
  | .ref a => match H a with
    | some (.lst xs) => some xs
    | some (.tup xs) => some xs
    | _ => none
  | _ => none
theorem seqV_lst {H : Hp} {a : Addr} {xs : List V} (h : H a = some (.lst xs)) : seqV H (.ref a) = some xs := by
  show (match H a with
    | some (.lst xs) => some xs
    | some (.tup xs) => some xs
    | _ => none) = _
  rw [h]
theorem seqV_tup {H : Hp} {a : Addr} {xs : List V} (h : H a = some (.tup xs)) : seqV H (.ref a) = some xs := by
  show (match H a with
    | some (.lst xs) => some xs
    | some (.tup xs) => some xs
    | _ => none) = _
  rw [h]
theorem seqV_tw {b : Addr} {H H' : Hp} {v : V} (h : Tw b H v) (k : But b H H') : seqV H' v = seqV H v := by
  cases v with
  | ref a =>
    obtain ⟨n, xs, e | e, _⟩ := h
    · rw [seqV_lst e, seqV_lst (k _ _ n e)]
    · rw [seqV_tup e, seqV_tup (k _ _ n e)]
  | _ => rfl
def inB (lo hi : Int) : V → Bool
  | .int i => decide (lo ≤ i) && decide (i < hi)
  | _ => false
/-- whether a value is a sequence of integers between -/
def btw (H : Hp) (lo hi : Int) (v : V) : Bool := match seqV H v with
  | some xs => xs.all (inB lo hi)
  | none => false
theorem btw_seq {H : Hp} {lo hi : Int} {v : V} {xs : List V} (h : seqV H v = some xs) : btw H lo hi v = xs.all (inB lo hi) := by
  unfold btw
  rw [h]
theorem btw_none {H : Hp} {lo hi : Int} {v : V} (h : seqV H v = none) : btw H lo hi v = false := by
  unfold btw
  rw [h]
theorem btw_tw {b : Addr} {H H' : Hp} {v : V} {lo hi : Int} (h : Tw b H v) (k : But b H H') : btw H' lo hi v = btw H lo hi v := by
  unfold btw
  rw [seqV_tw h k]
theorem all_inB {lo hi : Int} : ∀ {xs : List V}, xs.all (inB lo hi) = true → ∃ ns : List Int, xs = ns.map V.int ∧ ∀ n ∈ ns, lo ≤ n ∧ n < hi
  | [], _ => ⟨[], rfl, fun n h => nomatch h⟩
  | x :: xs, h => by
    rw [List.all_cons, Bool.and_eq_true] at h
    obtain ⟨ns, rfl, q⟩ := all_inB h.2
    cases x with
    | int i =>
      have h1 := h.1
      simp only [inB, Bool.and_eq_true, decide_eq_true_eq] at h1
      exact ⟨i :: ns, rfl, fun n hn => by
        rcases List.mem_cons.mp hn with e | e
        · subst e; exact h1
        · exact q n e⟩
    | _ => exact absurd h.1 (by simp [inB])
/-! ### n = {k: v for ..}, n a local name that no inner block keeps -/
theorem sw_dc {kx vx : Expr} {gs : List Comprehension} {sc : Scope} {p q : Pos} {n : Str} {ln : Nat} {ev : Env} (isf : ev.scope.kind = .function) (isl : ev.scope.names.lookup n = some .local) (same : (q.line == p.line) = true)
    (out : (sc.names.any fun (m, k) => m == n && (k == .local || k == .cell)) = false) : swapsWith (.DictComp kx vx gs sc p) (some (.Name n q)) ln ev = pure true := by
  have k1 : ev.kindOf n = some .local := isl
  have k2 : ev.blockKind = .function := by
    unfold Env.blockKind
    rw [isf]
    rfl
  unfold swapsWith
  simp only [k2, k1, out, Expr.pos, same]
  rfl
theorem ps_setDc {X : Cx} {i : Nat} {n : Str} {q : Pos} {kx vx tg it : Expr} {ifs : List Expr} {sc : Scope} {own : List (Str × Nat)} {p sp : Pos} {wi : TI} {g : TG} {tt : TT} {tk tv : TE} (calm : X.calm = true) (nd : X.N.Nodup) (hn : X.N[i]? = some n) (isl : X.env.scope.names.lookup n = some .local)
    (sw : swapsWith (.DictComp kx vx [⟨tg, it, ifs, 0⟩] sc p) (some (.Name n q)) sp.line X.env = pure true) (hi : PI X tg it wi) (ok : BlkOk X.N X.env.scope sc own)
    (r1 : ∀ (u : Shared) (H : Hp) (C : Addr) (cl : List (Str × Addr)) (fp : List Addr), PG (X.blk u H sc (compEnvC sc cl C X.env) fp) tg g) (r2 : ∀ (u : Shared) (H : Hp) (C : Addr) (cl : List (Str × Addr)) (fp : List Addr), PTs (X.blk u H sc (compEnvC sc cl C X.env) fp) ifs tt)
    (r3 : ∀ (u : Shared) (H : Hp) (C : Addr) (cl : List (Str × Addr)) (fp : List Addr), PE (X.blk u H sc (compEnvC sc cl C X.env) fp) kx tk) (r4 : ∀ (u : Shared) (H : Hp) (C : Addr) (cl : List (Str × Addr)) (fp : List Addr), PE (X.blk u H sc (compEnvC sc cl C X.env) fp) vx tv)
    (plain : ∀ x, foldedSetIterable it X.env x = pure x := by intro _; rfl) : PS X (.Assign [.Name n q] (.DictComp kx vx [⟨tg, it, ifs, 0⟩] sc p) sp) (tAsg (tDc wi g tt tk tv (own.map (·.2))) (gName i)) := by
  refine ⟨fun pins s σ H D I wish => ?_⟩
  have wish : tDc wi g tt tk tv (own.map (·.2)) σ H (fun x H1 => gName i x σ H1 D.nx) := wish
  rw [exec_Assign_Name_used _ _ _ _ sw]
  refine wpAny_bind (wpAny_standAt (wpAny_bind ?_))
  show wpAny _ X.A (do let _ ← comprehension (.DictComp kx vx [⟨tg, it, ifs, 0⟩] sc p) sc X.env (firstIterPos [⟨tg, it, ifs, 0⟩] p) newDict false (eval it X.env) (some (assign (.Name n q) X.env))) _ _ s
  refine wpAny_bind (thn (dc_core (Qf := fun _ s' => SP X pins D .next s') calm nd I hi ok r1 r2 r3 r4 plain wish fun L C s1 ns H1 I1 got hns fr => ?_) fun _ s1 z => wpAny_pure (wpAny_pure z))
  show wpAny _ _ (assign (.Name n q) X.env (.ref L)) _ _ _
  refine wpAny_assign_Name (store_ok2 (v := V.ref L) I1 nd hn (.inl isl) rfl (fun s2 I2 ⟨c, keep, way⟩ => ?_) (.inr isl))
  obtain ⟨e0, e1, e2, e3, e4, e5⟩ := fr
  have far : C ≠ c := by
    rcases way with z | z
    · rw [z]
      exact e1
    · exact fun e => e4 n c z e.symm
  refine ⟨ns, hns.sameBut keep far, fun h3 keep3 => ?_⟩
  exact ⟨_, H1, I2.turned (t' := s2.toks) (fun b o hb e => (keep3.2 b hb).trans e) e0 e1 e3 e4 e5, got⟩
/-- a list or a tuple, walked -/
def iSeqA (K : PySem.W.Frag) (tl : TE) : TI := fun σ H R => tl σ H fun v H1 => ∃ a, v = .ref a ∧ ((∃ xs, SqL K H1 a xs ∧ R (Itl K a) H1) ∨ (∃ xs, SqT K H1 a xs ∧ R (Itt K a) H1))
theorem pi_seqA {X : Cx} {tg l : Expr} {tl : TE} (hl : PE X l tl) : PI X tg l (iSeqA X.K tl) := by
  refine ⟨fun pins s σ H R I h => thn (hl.run pins s σ H _ I h) fun v u res => ?_⟩
  obtain ⟨x, G, J, rx, a, ex, way⟩ := res
  subst ex
  cases rx
  have new : ∀ c ∈ [u.heap.objs.size], FpOk X pins G c := fun c hc => by
    obtain rfl : c = u.heap.objs.size := by simpa using hc
    exact J.fpOk (Nat.le_refl _) (J.hok.fresh (Nat.le_refl _))
  rcases way with ⟨xs, hq, q⟩ | ⟨xs, hq, q⟩
  · obtain ⟨its, rv, p, _⟩ := J.list hq
    refine wpAny_pyIter_list p.isList ⟨u.heap.objs.size, [u.heap.objs.size], _, _, G, rfl, ?_, turn_list a _, ⟨_, Heap.get?_push_size _ rfl, rfl, rfl⟩, new, q⟩
    exact J.kept (t' := u.toks) fun c r z => Heap.get?_push_of_some _ z
  · obtain ⟨its, rv, p, _⟩ := J.tuple hq
    refine wpAny_pyIter_tuple (show u.heap.IsTuple a its.toArray from p) ⟨u.heap.objs.size, [u.heap.objs.size], _, _, G, rfl, ?_, turn_tuple a _, ⟨_, Heap.get?_push_size _ rfl, rfl, rfl⟩, new, q⟩
    exact J.kept (t' := u.toks) fun c r z => Heap.get?_push_of_some _ z
/-- a list or a tuple of ints -/
def SeqI (K : PySem.W.Frag) (H : Hp) (a : Addr) (ns : List Int) : Prop := SqL K H a (ns.map V.int) ∨ SqT K H a (ns.map V.int)
theorem SeqI.same {K : PySem.W.Frag} {H H' : Hp} {a : Addr} {ns : List Int} (h : SeqI K H a ns) (s : Same H H') : SeqI K H' a ns := h.imp (s.seq ·) (fun h => (Fz.of_same s).sqT h)
theorem take_int {ns : List Int} {i : Nat} {x : V} (h : (ns.map V.int)[i]? = some x) : ∃ n, x = .int n ∧ ns.take (i + 1) = ns.take i ++ [n] := by
  obtain ⟨n, hn, rfl⟩ := map_int_get h
  exact ⟨n, rfl, take_snoc hn⟩
/-- {n: True for n in a} -/
theorem dset {K : PySem.W.Frag} {a : Addr} {ns : List Int} {te : TE} {sl : Nat} {σ : L2.St} {H : Hp} {Q : VK} (hte : ∀ R : VK, R (.ref a) H → te σ H R) (hl : sl < σ.length) (hS : SeqI K H a ns) (hn : ns.length ≤ 1000)
    (k : ∀ D H', H D = none → Same H H' → SetI H' D ns → Q (.ref D) H') : tDc (iSeqA K te) (gName sl) tYes (tVar sl) (tC (.bl true)) [sl] σ H Q := by
  have turn : ∀ (D : Addr), H D = none → ∀ j x Hc H', j < (ns.map V.int).length → (SetI Hc D (ns.take j) ∧ Same H Hc) → YAt (ns.map V.int) j Hc x H' → gName sl x (wipe σ [sl]) H' fun σ1 H1 => wipe σ1 [sl] = wipe σ [sl] ∧ tYes σ1 H1 fun c H2 =>
      if c = true then tVar sl σ1 H2 fun y H3 => tC (.bl true) σ1 H3 fun z H4 => ∃ ks k, y = kV k ∧ H4 D = some (.dK ks) ∧ ks.length < sizeLine ∧ (SetI (upd H4 D (.dK (putK ks k z))) D (ns.take (j + 1)) ∧ Same H (upd H4 D (.dK (putK ks k z)))) else (SetI H2 D (ns.take (j + 1)) ∧ Same H H2) := by
    intro D hD j x Hc H' hj hR hy
    obtain ⟨rfl, hx⟩ := hy
    obtain ⟨n, rfl, tk⟩ := take_int hx
    obtain ⟨⟨kvs, hk, kk⟩, sc⟩ := hR
    refine ⟨by simp [wipe, List.set_set], ?_⟩
    dsimp only [tYes]
    rw [if_pos rfl]
    refine ⟨.int n, by simp [wipe, List.getElem?_set, hl], kvs, .inl n, rfl, hk, ?_, ?_, ?_⟩
    · have := kk.2
      rw [List.length_take] at this
      exact szl (by omega)
    · rw [tk]
      exact ⟨_, upd_same, kk.snoc n _⟩
    · exact same_lst sc hD
  refine hte _ ⟨a, rfl, ?_⟩
  rcases hS with hS | hS
  · refine .inl ⟨_, hS, fun D hD => dc_it walk_list (fun i Hc => SetI Hc D (ns.take i) ∧ Same H Hc) ⟨⟨[], upd_same, KeysI.nil⟩, same_new hD⟩ (fun i Hc _ hR => hR.2.seq hS) (turn D hD) (fun Hc hR => ?_)⟩
    rw [List.length_map, List.take_length] at hR
    exact k D Hc hD hR.2 hR.1
  · refine .inr ⟨_, hS, fun D hD => dc_it walk_tup (fun i Hc => SetI Hc D (ns.take i) ∧ Same H Hc) ⟨⟨[], upd_same, KeysI.nil⟩, same_new hD⟩ (fun i Hc _ hR => (Fz.of_same hR.2).sqT hS) (turn D hD) (fun Hc hR => ?_)⟩
    rw [List.length_map, List.take_length] at hR
    exact k D Hc hD hR.2 hR.1
theorem asg_go {te : TE} {g : V → L2.St → Hp → (L2.St → Hp → Prop) → Prop} {rest : TS} {D : Ends} {σ : L2.St} {H : Hp} (h : te σ H (fun x H1 => g x σ H1 (fun σ2 H2 => rest D σ2 H2))) : tSeq (tAsg te g) rest D σ H := h
/-- [e for n in a], the e of a bool each, nothing written -/
theorem lmap {K : PySem.W.Frag} {a : Addr} {ns : List Int} {te el : TE} {sl : Nat} {σ : L2.St} {H : Hp} {Q : VK} (f : Int → Bool) (hte : ∀ R : VK, R (.ref a) H → te σ H R) (hS : SeqI K H a ns) (hn : ns.length ≤ 1000)
    (helt : ∀ n Hc (R : VK), n ∈ ns → Same H Hc → R (.bl (f n)) Hc → el ((wipe σ [sl]).set sl (some (.int n))) Hc R)
    (k : ∀ D H', H D = none → Same H H' → H' D = some (.lst ((ns.map f).map V.bl)) → Q (.ref D) H') : tLc (iSeqA K te) (gName sl) tYes el [sl] σ H Q := by
  have turn : ∀ (D : Addr), H D = none → ∀ j x Hc H', j < (ns.map V.int).length → (Hc D = some (.lst (((ns.take j).map f).map V.bl)) ∧ Same H Hc) → YAt (ns.map V.int) j Hc x H' → gName sl x (wipe σ [sl]) H' fun σ1 H1 => wipe σ1 [sl] = wipe σ [sl] ∧ tYes σ1 H1 fun c H2 =>
      if c = true then el σ1 H2 fun y H3 => ∃ acc, H3 D = some (.lst acc) ∧ acc.length < sizeLine ∧ (upd H3 D (.lst (acc ++ [y])) D = some (.lst (((ns.take (j + 1)).map f).map V.bl)) ∧ Same H (upd H3 D (.lst (acc ++ [y])))) else (H2 D = some (.lst (((ns.take (j + 1)).map f).map V.bl)) ∧ Same H H2) := by
    intro D hD j x Hc H' hj hR hy
    obtain ⟨rfl, hx⟩ := hy
    obtain ⟨n, rfl, tk⟩ := take_int hx
    obtain ⟨hk, sc⟩ := hR
    refine ⟨by simp [wipe, List.set_set], ?_⟩
    dsimp only [tYes]
    rw [if_pos rfl]
    refine helt n _ _ (List.mem_of_mem_take (i := j + 1) (by rw [tk]; simp)) sc ⟨_, hk, ?_, ?_, ?_⟩
    · rw [List.length_map, List.length_map, List.length_take]
      exact szl (by omega)
    · rw [tk, upd_same, List.map_append, List.map_append]
      rfl
    · exact same_lst sc hD
  refine hte _ ⟨a, rfl, ?_⟩
  rcases hS with hS | hS
  · refine .inl ⟨_, hS, fun D hD => lc_it walk_list (fun i Hc => Hc D = some (.lst (((ns.take i).map f).map V.bl)) ∧ Same H Hc) ⟨upd_same, same_new hD⟩ (fun i Hc _ hR => hR.2.seq hS) (turn D hD) (fun Hc hR => ?_)⟩
    rw [List.length_map, List.take_length] at hR
    exact k D Hc hD hR.2 hR.1
  · refine .inr ⟨_, hS, fun D hD => lc_it walk_tup (fun i Hc => Hc D = some (.lst (((ns.take i).map f).map V.bl)) ∧ Same H Hc) ⟨upd_same, same_new hD⟩ (fun i Hc _ hR => (Fz.of_same hR.2).sqT hS) (turn D hD) (fun Hc hR => ?_)⟩
    rw [List.length_map, List.take_length] at hR
    exact k D Hc hD hR.2 hR.1
theorem b_go {r : List V → Hp → VK → Prop} {te : TE} {σ : L2.St} {H : Hp} {Q : Bool → Hp → Prop} (h : te σ H (fun x H1 => r [x] H1 (fun z H2 => ∃ c, z = .bl c ∧ Q c H2))) : tB (tCB r (tCons te tNil)) σ H Q := h
theorem all_id {ns : List Int} {f : Int → Bool} : (ns.map f).all id = ns.all f := by simp [List.all_map]
/-- a list == [] -/
def rEqNil (K : PySem.W.Frag) : R2 := fun x y H Q => ∃ l b xs, x = .ref l ∧ y = .ref b ∧ SqL K H l xs ∧ SqL K H b [] ∧ Q (.bl xs.isEmpty) H
theorem op_eqNil {X : Cx} (hu : X.A.units + 1 < cLine) : OpR X (compareOp .Eq) (rEqNil X.K) := by
  intro pins s σ H x y v u Q I rx ry h
  obtain ⟨l, b, xs, rfl, rfl, h1, h2, q⟩ := h
  cases (show v = Value.ref l from rx)
  cases (show u = Value.ref b from ry)
  obtain ⟨its, rv, p1, _⟩ := I.list h1
  obtain ⟨its2, rv2, p2, _⟩ := I.list h2
  cases rv2
  have hu0 : X.A.units < cLine := by omega
  show wpAny _ _ (richCompare .Eq (.ref l) (.ref b)) _ _ _
  cases rv with
  | nil => exact SeqAt.RcAt.lists (e := fun _ => true) p1.isList p2.isList rfl hu0 (fun j h1 h2 => absurd h1 (by simp)) _ _ _ _ ⟨.bl _, H, I, rfl, q⟩
  | cons r t => exact SeqAt.RcAt.lists_lengths p1.isList p2.isList (by simp) hu0 _ _ _ _ ⟨.bl _, H, I, rfl, q⟩
/-- [a draw for _ in range(a draw)] -/
theorem ldraw {b : Addr} {targ : TA} {el : TE} {sl : Nat} {σ : L2.St} {H : Hp} {Q : VK} {lo hi : Int} (harg : ∀ R : List V → Hp → Prop, (∀ m H1, 0 ≤ m → m ≤ 100 → Box H1 b → But b H H1 → R [.int m] H1) → targ σ H R)
    (helt : ∀ x Hc (R : VK), Box Hc b → (∀ n H1, lo ≤ n → n < hi → Box H1 b → But b Hc H1 → R (.int n) H1) → el ((wipe σ [sl]).set sl (some x)) Hc R)
    (k : ∀ D (ns : List Int) H', H D = none → D ≠ b → H' D = some (.lst (ns.map V.int)) → ns.length ≤ 100 → (∀ n ∈ ns, lo ≤ n ∧ n < hi) → Box H' b → But b H H' → Q (.ref D) H') : tLc (iRng1 targ) (gName sl) tYes el [sl] σ H Q := by
  refine harg _ fun m H1 m0 m1 B1 k1 => ⟨m, rfl, by omega, by omega, fun D hD => ?_⟩
  have neD : D ≠ b := B1.ne_none hD
  refine lc_range (fun i Hc => ∃ ns : List Int, Hc D = some (.lst (ns.map V.int)) ∧ ns.length = i ∧ (∀ n ∈ ns, lo ≤ n ∧ n < hi) ∧ Box Hc b ∧ But b H1 Hc) ⟨[], upd_same, rfl, (fun n h => nomatch h), B1.same (same_new hD), But.of_same (same_new hD)⟩ (fun i Hc hi hP => ?_) (fun Hc hP => ?_)
  · obtain ⟨ns, hDc, hl, hns, Bc, kc⟩ := hP
    refine ⟨by simp [wipe, List.set_set], ?_⟩
    dsimp only [tYes]
    rw [if_pos rfl]
    refine helt _ _ _ Bc fun n H2 n0 n1 B2 k2 => ⟨_, k2 _ _ neD hDc, ?_, ns ++ [n], ?_, ?_, ?_, box_ne B2 neD, but_new (kc.trans k2) hD⟩
    · rw [List.length_map]
      exact szl (by omega)
    · rw [upd_same, List.map_append]
      rfl
    · rw [List.length_append, hl]
      rfl
    · intro x hx
      rcases List.mem_append.mp hx with h | h
      · exact hns x h
      · rw [List.mem_singleton] at h
        subst h
        exact ⟨n0, n1⟩
  · obtain ⟨ns, hDc, hl, hns, Bc, kc⟩ := hP
    exact k D ns Hc (k1.free neD hD) neD hDc (by omega) hns Bc (k1.trans kc)
theorem if_go {tt : TT} {ta tb : TE} {σ : L2.St} {H : Hp} {Q : VK} (h : tt σ H fun c H1 => if c = true then ta σ H1 Q else tb σ H1 Q) : tIf tt ta tb σ H Q := h
theorem cb_go {r : List V → Hp → VK → Prop} {te : TE} {σ : L2.St} {H : Hp} {Q : VK} (h : te σ H (fun x H1 => r [x] H1 Q)) : tCB r (tCons te tNil) σ H Q := h
end Rs
/-! v in o, v not in o by an own __contains__; what is_whole says of anything. -/
namespace Rs
open PySem PySem.Spec PyProof.Rows L2
section
variable {X : Cx} {CX : CXT} {C g : Addr} {n : Nat} {sp : Sp} {E : XK}
def rInM (C : Addr) (neg : Bool) (sp : Sp) (E : XK) : R2 := fun v y H Q => ∃ a dx fs, y = .ref a ∧ H a = some (.ins C dx fs) ∧ sp [.ref a, v] H (fun z H' => ∃ r, z = .bl r ∧ Q (.bl (if neg then !r else r)) H') E
theorem op_inM (M : Meth X.K C "__contains__" g) (F : FnR X.prog X.w X.K X.mg X.base CX n g sp) (hr : Room n X.A) (hx : Passes CX X E) : OpR X (compareOp .In) (rInM C false sp E) := by
  intro pins s σ H x y v u Q I rx ry h
  obtain ⟨a, dx, fs, rfl, ha, q⟩ := h
  cases (show u = Value.ref a from ry)
  obtain ⟨ox, od, J⟩ := ins_at I ha
  obtain ⟨m, hF⟩ := I.fr
  refine PySem.W.in_K hF I.ok.mod.kin J M.at_ M.fn ?_
  refine wpAny_mono (wpAny_call (run_fnR (us := [.ref a, v]) (vs := [.ref a, x]) F hr hx I (.cons rfl (.cons rx .nil)) q)) (fun w s' z => ?_) fun _ _ x => x
  obtain ⟨z', H', I', rz, r, ez, qz⟩ := z
  subst ez
  cases (show w = Value.bool r from rz)
  exact wpAny_truthy_bool ⟨.bl r, H', I', rfl, qz⟩
theorem op_notInM (M : Meth X.K C "__contains__" g) (F : FnR X.prog X.w X.K X.mg X.base CX n g sp) (hr : Room n X.A) (hx : Passes CX X E) : OpR X (compareOp .NotIn) (rInM C true sp E) := by
  intro pins s σ H x y v u Q I rx ry h
  obtain ⟨a, dx, fs, rfl, ha, q⟩ := h
  cases (show u = Value.ref a from ry)
  obtain ⟨ox, od, J⟩ := ins_at I ha
  obtain ⟨m, hF⟩ := I.fr
  refine PySem.W.notIn_K hF I.ok.mod.kin J M.at_ M.fn ?_
  refine wpAny_mono (wpAny_call (run_fnR (us := [.ref a, v]) (vs := [.ref a, x]) F hr hx I (.cons rfl (.cons rx .nil)) q)) (fun w s' z => ?_) fun _ _ x => x
  obtain ⟨z', H', I', rz, r, ez, qz⟩ := z
  subst ez
  cases (show w = Value.bool r from rz)
  exact wpAny_truthy_bool ⟨.bl (!r), H', I', rfl, qz⟩
end
theorem inV_int {n : Int} {ns : List Int} : inV (.int n) (ns.map V.int) = decide (n ∈ ns) := by
  induction ns with
  | nil => rfl
  | cons m ns ih =>
    unfold inV at ih ⊢
    rw [List.map_cons, List.any_cons, ih]
    show ((m == n) || decide (n ∈ ns)) = decide (n ∈ m :: ns)
    by_cases h : m = n
    · subst h
      simp
    · have h' : ¬ n = m := fun e => h e.symm
      simp [h, h']
theorem flat_ints {ns : List Int} : (ns.map V.int).all flatV = true := by
  induction ns with
  | nil => rfl
  | cons m ns ih =>
    rw [List.map_cons, List.all_cons, ih]
    rfl
/-- what is_whole says of a value: the integer that it is, if it is one -/
def IsV (K : PySem.W.Frag) (H : Hp) (v : V) (o : Option Int) : Prop := ∃ t r, TyX K H v t ∧ PySem.W.kitOne K t (.type "int") = some r ∧ (r = false → o = none) ∧
  (r = true → ∃ c, PySem.W.kitOne K t (.type "bool") = some c ∧ (c = true → o = none) ∧ (c = false → ∃ i, v = .int i ∧ o = some i))
def wholeV : V → Option Int
  | .int i => some i
  | _ => none
theorem Sh.isV {K : PySem.W.Frag} {b : Addr} {H : Hp} {v : V} (h : Sh b H v) : IsV K H v (wholeV v) := by
  obtain ⟨t, ty, ki, kb⟩ := h.ty (K := K)
  refine ⟨_, _, ty, kit_ty ki, fun e => ?_, fun e => ⟨_, kit_ty kb, fun e2 => ?_, fun e2 => ?_⟩⟩
  · cases v <;> first | rfl | exact absurd e (by simp [isInt])
  · cases v <;> first | rfl | exact absurd e2 (by simp [isBl])
  · cases v with
    | int i => exact ⟨i, rfl, rfl⟩
    | bl c => exact absurd e2 (by simp [isBl])
    | _ => exact absurd e (by simp [isInt, isBl])
theorem kit_own_int {K : PySem.W.Frag} {C : Addr} (N : OwnN K C) : PySem.W.kitOne K (.ref C) (.type "int") = some false := by
  have hm : PySem.W.kitMeta "int" = true := by decide +kernel
  have hs : PySem.W.subIn K (.ref C) (.type "int") = some false := N.it
  unfold PySem.W.kitOne PySem.W.kitCls
  simp [hm, hs]
theorem isV_own {K : PySem.W.Frag} {C x dx : Addr} {fs : List (Str × V)} {H : Hp} (I : OwnI K C) (c : Cls K C) (N : OwnN K C) (h : H x = some (.ins C dx fs)) : IsV K H (.ref x) none :=
  ⟨_, false, I.ty c h, kit_own_int N, fun _ => rfl, fun e => nomatch e⟩
end Rs
/-! ~o, o & p and the like by own methods; what stays of written and unwritten lists when one instance changes. -/
namespace Rs
open PySem PySem.Spec PyProof.Rows L2
section
variable {X : Cx} {CX : CXT} {C g : Addr} {n : Nat} {sp : Sp} {E : XK}
def rUnM (C : Addr) (sp : Sp) (E : XK) : V → Hp → VK → Prop := fun x H Q => ∃ a dx fs, x = .ref a ∧ H a = some (.ins C dx fs) ∧ sp [.ref a] H Q E
theorem un_invM (M : Meth X.K C "__invert__" g) (F : FnR X.prog X.w X.K X.mg X.base CX n g sp) (hr : Room n X.A) (hx : Passes CX X E) : UnR X (unaryOp .Invert) (rUnM C sp E) := by
  intro pins s σ H x v Q I rx h
  obtain ⟨a, dx, fs, rfl, ha, q⟩ := h
  cases (show v = Value.ref a from rx)
  obtain ⟨ox, od, J⟩ := ins_at I ha
  obtain ⟨m, hF⟩ := I.fr
  exact PySem.W.ksp_inv hF I.ok.mod.kin J M.at_ M.fn (wpAny_call (run_fnR (us := [.ref a]) (vs := [.ref a]) F hr hx I (.cons rfl .nil) q))
end
/-- a list that an instance's change leaves -/
theorem SeqI.but {K : PySem.W.Frag} {H F : Hp} {a x C dx : Addr} {gs : List (Str × V)} {ns : List Int} (h : SeqI K H a ns) (hx : H x = some (.ins C dx gs)) (k : But x H F) : SeqI K F a ns := by
  have ne : ∀ o, H a = some o → (∀ C dx gs, o ≠ .ins C dx gs) → a ≠ x := fun o e no z => by
    subst z
    rw [hx] at e
    injection e with e
    exact no _ _ _ e.symm
  rcases h with h | h
  · rcases h with (h | ⟨o, h⟩) | h
    · exact .inl (.inl (.inl (k _ _ (ne _ h (fun _ _ _ e => nomatch e)) h)))
    · exact .inl (.inl (.inr ⟨o, k _ _ (ne _ h (fun _ _ _ e => nomatch e)) h⟩))
    · exact .inl (.inr h)
  · rcases h with (h | ⟨o, h⟩) | h
    · exact .inr (.inl (.inl (k _ _ (ne _ h (fun _ _ _ e => nomatch e)) h)))
    · exact .inr (.inl (.inr ⟨o, k _ _ (ne _ h (fun _ _ _ e => nomatch e)) h⟩))
    · exact .inr (.inr h)
theorem sqL_ty {K : PySem.W.Frag} {H : Hp} {a : Addr} {xs : List V} (h : SqL K H a xs) : (∃ t, TyX K H (.ref a) t ∧ (t = .type "list")) ∨ ∃ o, H a = some (.frz o (.lst xs)) := by
  rcases h with (h | ⟨o, h⟩) | ⟨o, its, n, h1, h2, _⟩
  · exact .inl ⟨_, .base (.lst h), rfl⟩
  · exact .inr ⟨o, h⟩
  · exact .inl ⟨_, .kList h1 h2, rfl⟩
/-- e.f within a comprehension -/
theorem pe_fldK {X : Cx} {K : PySem.W.Frag} {ex : Expr} {f : Str} {pos : Pos} {ta : TE} (e : X.K = K) (he : PE X ex ta) (hb : attributeBase ex f X.env (eval ex X.env) = eval ex X.env) : PE X (.Attribute ex f pos) (tFld K ta f) := by
  subst e
  exact pe_fld he hb
theorem szL2 {n : Nat} (h : n ≤ 100000) : n < sizeLine := Nat.lt_of_le_of_lt h (by rw [sizeLine_eq]; decide)
theorem ix_listK {X : Cx} {K : PySem.W.Frag} (e : X.K = K) : IxR X (rIxL K) := by
  subst e
  exact ix_list
theorem ix_tupK {X : Cx} {K : PySem.W.Frag} (e : X.K = K) : IxR X (rIxT K) := by
  subst e
  exact ix_tup
/-- return f(e, ..): the first argument first -/
theorem retc_go {sp : Sp} {ds : List V} {E : XK} {te : TE} {ta : TA} {D : Ends} {σ : L2.St} {H : Hp} (h : te σ H (fun x H1 => ta σ H1 fun xs H2 => sp ((x :: xs) ++ ds) H2 D.rt E)) : tRet (tCall sp ds E (tCons te ta)) D σ H := h
theorem ret_go {te : TE} {D : Ends} {σ : L2.St} {H : Hp} (h : te σ H D.rt) : tRet te D σ H := h
/-- [n for n in a if f n] over a tuple of ints -/
theorem lfilt {K : PySem.W.Frag} {a : Addr} {ns : List Int} {te : TE} {tt : TT} {sl : Nat} {σ : L2.St} {H : Hp} {Q : VK} (f : Int → Bool) (hte : ∀ R : VK, R (.ref a) H → te σ H R) (hS : SqT K H a (ns.map V.int)) (hl : sl < σ.length) (ln : ns.length ≤ 3000)
    (htt : ∀ n Hc (R : Bool → Hp → Prop), Same H Hc → R (f n) Hc → tt ((wipe σ [sl]).set sl (some (.int n))) Hc R)
    (k : ∀ D H', H D = none → Same H H' → H' D = some (.lst ((ns.filter f).map V.int)) → Q (.ref D) H') : tLc (iTup K te) (gName sl) tt (tVar sl) [sl] σ H Q := by
  refine hte _ ⟨a, rfl, ⟨_, hS⟩, fun D hD => lc_it walk_tup (fun i Hc => Hc D = some (.lst (((ns.take i).filter f).map V.int)) ∧ Same H Hc) ⟨upd_same, same_new hD⟩ (fun i Hc _ hR => (Fz.of_same hR.2).sqT hS) (fun j x Hc H' hj hR hy => ?_) (fun Hc hR => ?_)⟩
  · obtain ⟨rfl, hx⟩ := hy
    obtain ⟨n, rfl, tk⟩ := take_int hx
    obtain ⟨hDc, sc⟩ := hR
    refine ⟨by simp [wipe, List.set_set], htt n _ _ sc ?_⟩
    refine ifB (fun g => ?_) (fun g => ?_)
    · refine ⟨.int n, by simp [wipe, List.getElem?_set, hl], _, hDc, ?_, ?_, same_lst sc hD⟩
      · rw [List.length_map]
        have := List.length_filter_le f (ns.take j)
        rw [List.length_take] at this
        exact szL2 (by omega)
      · rw [upd_same, tk, List.filter_append, List.filter_cons, g, List.map_append]
        rfl
    · refine ⟨?_, sc⟩
      rw [tk, List.filter_append, List.filter_cons, g]
      simpa using hDc
  · rw [List.length_map, List.take_length] at hR
    exact k D Hc hD hR.2 hR.1
theorem at_head {y : Int} {t : List Int} : atI ((y :: t).map V.int) 0 = some (.int y) := atI_ok (by decide) rfl rfl
theorem op_in_seqK {X : Cx} {K : PySem.W.Frag} (e : X.K = K) : OpR X (compareOp .In) (rIn K false) := by
  subst e
  exact op_in_seq
/-- [n for n in range(lo, hi) if f n] -/
theorem lcond {targ : TA} {tt : TT} {sl : Nat} {σ : L2.St} {H : Hp} {Q : VK} {lo hi : Int} (f : Int → Bool) (b1 : -1000 ≤ lo) (b2 : lo ≤ 3000) (b3 : -1000 ≤ hi) (b4 : hi ≤ 3000) (harg : ∀ R : List V → Hp → Prop, R [.int lo, .int hi] H → targ σ H R) (hl : sl < σ.length)
    (htt : ∀ n Hc (R : Bool → Hp → Prop), lo ≤ n → n < hi → Same H Hc → R (f n) Hc → tt ((wipe σ [sl]).set sl (some (.int n))) Hc R)
    (k : ∀ D H', H D = none → Same H H' → H' D = some (.lst ((((List.range (hi - lo).toNat).map fun i : Nat => lo + (i : Int)).filter f).map V.int)) → Q (.ref D) H') : tLc (iRng2 targ) (gName sl) tt (tVar sl) [sl] σ H Q := by
  refine harg _ ⟨lo, hi, rfl, by omega, fun D hD => ?_⟩
  refine lc_range (fun i Hc => Hc D = some (.lst ((((List.range i).map fun i : Nat => lo + (i : Int)).filter f).map V.int)) ∧ Same H Hc) ⟨upd_same, same_new hD⟩ (fun i Hc hi' hP => ?_) (fun Hc hP => k D Hc hD hP.2 hP.1)
  obtain ⟨hDc, sc⟩ := hP
  refine ⟨by simp [wipe, List.set_set], htt _ _ _ (by omega) (by omega) sc ?_⟩
  have z : ((List.range (i + 1)).map fun i : Nat => lo + (i : Int)).filter f = ((List.range i).map fun i : Nat => lo + (i : Int)).filter f ++ (if f (lo + (i : Int)) = true then [lo + (i : Int)] else []) := by
    rw [range_succ_map, List.filter_append, List.filter_cons, List.filter_nil]
  refine ifB (fun g => ?_) (fun g => ?_)
  · rw [if_pos g] at z
    refine ⟨.int (lo + (i : Nat)), by simp [wipe, List.getElem?_set, hl], _, hDc, ?_, ?_, same_lst sc hD⟩
    · rw [List.length_map]
      have := List.length_filter_le f ((List.range i).map fun i : Nat => lo + (i : Int))
      rw [List.length_map, List.length_range] at this
      exact szL2 (by omega)
    · rw [upd_same, z, List.map_append]
      rfl
  · rw [if_neg (by rw [g]; exact Bool.false_ne_true), List.append_nil] at z
    rw [z]
    exact ⟨hDc, sc⟩
section
variable {σ : L2.St} {H : Hp}
theorem tst_go {r : R2} {ta tb : TE} {Q : Bool → Hp → Prop} (h : ta σ H fun x H1 => tb σ H1 fun y H2 => r x y H2 fun z H3 => ∃ k, z = .bl k ∧ Q k H3) : tTest (tOp r ta tb) σ H Q := h
theorem or_go {t u : TT} {Q : Bool → Hp → Prop} (h : t σ H fun c H1 => if c = true then Q true H1 else u σ H1 Q) : tOr t u σ H Q := h
theorem prop_go {C : Addr} {sp : Sp} {E : XK} {ta : TE} {Q : VK} (h : ta σ H fun x H1 => ∃ a dx fs, x = .ref a ∧ H1 a = some (.ins C dx fs) ∧ sp [.ref a] H1 Q E) : tProp C sp [] E ta σ H Q := h
theorem opl_go {r : R2} {ta tb : TE} {Q : VK} (h : ta σ H fun x H1 => tb σ H1 fun y H2 => r x y H2 Q) : tOp r ta tb σ H Q := h
theorem un_go {r : V → Hp → VK → Prop} {ta : TE} {Q : VK} (h : ta σ H fun x H1 => r x H1 Q) : tUn r ta σ H Q := h
theorem seqif_go {c : TT} {t u rest : TS} {D : Ends} (h : c σ H fun b H1 => if b = true then t { D with nx := fun σ2 H2 => rest D σ2 H2 } σ H1 else u { D with nx := fun σ2 H2 => rest D σ2 H2 } σ H1) : tSeq (tIfS c t u) rest D σ H := h
end
end Rs
/-! o & p, o <= p and the like by own methods, both of one class. -/
namespace Rs
open PySem PySem.Spec PyProof.Rows L2
section
variable {X : Cx} {CX : CXT} {C g : Addr} {n : Nat} {sp : Sp} {E : XK}
/-- x op y by the class's own method, both instances of the class at C; the answer is not NotImplemented: no value here is -/
def rBinM (C : Addr) (sp : Sp) (E : XK) : R2 := fun x y H Q => ∃ a dx fs b dy gs, x = .ref a ∧ y = .ref b ∧ H a = some (.ins C dx fs) ∧ H b = some (.ins C dy gs) ∧ sp [x, y] H Q E
theorem op_binM {op : Operator} (M : Meth X.K C (dunder op.info.snd) g) (hc : PySem.W.selfFirst X.K C = true) (F : FnR X.prog X.w X.K X.mg X.base CX n g sp) (hr : Room n X.A) (hx : Passes CX X E) : OpR X (binaryOp op) (rBinM C sp E) := by
  intro pins s σ H x y v u Q I rx ry h
  obtain ⟨a, dx, fs, b, dy, gs, rfl, rfl, ha, hb, q⟩ := h
  cases (show v = Value.ref a from rx)
  cases (show u = Value.ref b from ry)
  obtain ⟨ox, od, J⟩ := ins_at I ha
  obtain ⟨oy, ody, Jb⟩ := ins_at I hb
  obtain ⟨m, hF⟩ := I.fr
  refine PySem.W.binop_K hF I.ok.mod.kin J Jb.type hc M.at_ M.fn ?_
  refine wpAny_mono (wpAny_call (run_fnR (us := [.ref a, .ref b]) (vs := [.ref a, .ref b]) F hr hx I (.cons rfl (.cons rfl .nil)) q)) (fun w s' z => ?_) fun _ _ x => x
  obtain ⟨z', H', I', rz, qz⟩ := z
  exact SlX.cmpback rz ⟨z', H', I', rz, qz⟩
/-- x <= y and the like -/
theorem op_cmpM {op : CmpOp} (ho : compareOp op = richCompare op) (M : Meth X.K C ((cmpInfo op).snd.fst) g) (F : FnR X.prog X.w X.K X.mg X.base CX n g sp) (hr : Room n X.A) (hx : Passes CX X E) : OpR X (compareOp op) (rBinM C sp E) := by
  intro pins s σ H x y v u Q I rx ry h
  obtain ⟨a, dx, fs, b, dy, gs, rfl, rfl, ha, hb, q⟩ := h
  cases (show v = Value.ref a from rx)
  cases (show u = Value.ref b from ry)
  obtain ⟨ox, od, J⟩ := ins_at I ha
  obtain ⟨oy, ody, Jb⟩ := ins_at I hb
  obtain ⟨m, hF⟩ := I.fr
  rw [ho]
  refine PySem.W.cmp_K (op := op) (tb := .ref C) hr.units0 hF I.ok.mod.kin J Jb.type notFirst_self M.at_ M.fn ?_
  refine wpAny_mono (wpAny_call (run_fnR (us := [.ref a, .ref b]) (vs := [.ref a, .ref b]) F hr hx I (.cons rfl (.cons rfl .nil)) q)) (fun w s' z => ?_) fun _ _ x => x
  obtain ⟨z', H', I', rz, qz⟩ := z
  exact SlX.cmpback rz ⟨z', H', I', rz, qz⟩
theorem cmpLe : compareOp .LtE = richCompare .LtE := rfl
theorem cmpLt : compareOp .Lt = richCompare .Lt := rfl
theorem cmpGe : compareOp .GtE = richCompare .GtE := rfl
theorem cmpGt : compareOp .Gt = richCompare .Gt := rfl
end
end Rs
/-! o[i] by an own __getitem__ -/
namespace Rs
open PySem PySem.Spec PyProof.Rows L2
section
variable {X : Cx} {CX : CXT} {C g : Addr} {n : Nat} {sp : Sp} {E : XK} {a b : Expr} {ta tb : TE} {pos : Pos}
def rGetO (C : Addr) (sp : Sp) (E : XK) : R2 := fun x y H Q => ∃ a dx fs, x = .ref a ∧ H a = some (.ins C dx fs) ∧ sp [.ref a, y] H Q E
theorem pe_ixO (M : Meth X.K C "__getitem__" g) (hfn : PySem.W.fnIn X.K g = true) (F : FnR X.prog X.w X.K X.mg X.base CX n g sp) (hr : Room (n + 1) X.A) (hx : Passes CX X E) (ha : PE X a ta) (hb : PE X b tb)
    (hsl : ∀ x i, subscripted b true (.ref x) i = runValue (.builtin "lifetime.subscript" ⟨[.ref x, i], []⟩) := by intro x i; with_unfolding_all rfl) : PE X (.Subscript a b pos) (tOp (rGetO C sp E) ta tb) := by
  refine ⟨fun pins s σ H Q I h => ?_⟩
  refine Subscript_ (binT ha hb I h fun v u s2 x y H2 I2 rx ry q => ?_)
  obtain ⟨z, dx, fs, rfl, hz, q⟩ := q
  cases (show v = Value.ref z from rx)
  obtain ⟨ox, od, J⟩ := ins_at I2 hz
  obtain ⟨m, hF⟩ := I2.fr
  refine PySem.W.sub_K hF I2.ok.mod.kin J M.at_ hfn M.fn ?_ (hsl z u)
  have sb : Sub X n X.A.in1 := Sub.in1 ⟨hr, rfl⟩
  have e0 : Env0 X.prog X.w X.K X.mg X.base X.A.in1 X.stack s2 H2 := by
    have e := I2.env0
    exact ⟨by rw [sb.fr]; exact e.frames, e.mod, e.bs, e.bsz, e.funs, e.frf, e.hok, e.bare⟩
  exact wpAny_call (SlX.run_at (us := [.ref z, u]) (ws := [.ref z, y]) F sb.room e0 hx I2 (.cons rfl (.cons ry .nil)) q)
end
end Rs
/-! list(zip(a, b)) of two lists. -/
namespace Rs
open PySem PySem.Spec PyProof.Rows L2
theorem wpAny_alive {M : Model} {A : Around} {E : Value → Shared → Prop} {s : Shared} {a : Addr} {Q : Option Obj → Shared → Prop} (h : Q (s.heap.get? a) s) : wpAny M A (Sem.loadIfAlive a Sem.pure) Q E s := by
  intro Γ p hΓ
  rw [Sem.wp_loadIfAlive]
  exact h
def zipO (T0 : Addr) (t : Tok) (fl : Bool) (TI TO : Addr) : Obj := { cls := .type "zip", data := .fields #[.int (T0 : Int) t, .bool fl, .bool false, .ref TI, .ref TO] }
section
variable {prog : Program} {w : World} {A : Around} {E : Value → Shared → Prop} {z TI TO i1 i2 l1 l2 T0 : Addr} {k : Nat} {xs ys : Array Value} {x y a b : Value} {o : Obj} {t : Tok} 
theorem draw1 {s : Shared} {it l : Addr} (hA : A.handled = none) (ne : l ≠ it) (h1 : s.heap.IsListIter it l k) (h2 : s.heap.IsList l xs) (hx : xs[k]? = some x) {Q : Value → Shared → Prop}
    (q : ∀ h' tk, h'.IsListIter it l (k + 1) → Heap.SameBut it s.heap h' → Q x { heap := h', gens := s.gens, drawn := s.drawn, toks := tk, os := s.os }) : wpAny (model prog w) A (Builtin.SmallTypes.nextOf (.ref it)) Q E s := by
  have lt : k < xs.size := by
    rcases Nat.lt_or_ge k xs.size with h | h
    · exact h
    · rw [Array.getElem?_eq_none h] at hx
      cases hx
  refine (Draws.list (prog := prog) (w := w) hA it l ne xs).item k s Q E lt ⟨h1, h2⟩ (fun v h' tk hv st sb => ?_)
  rw [hx] at hv
  injection hv with hv
  subst hv
  exact q h' tk st.1 sb
theorem iter_but {h h' : Heap} {c it l : Addr} {i : Nat} (sb : Heap.SameBut c h h') (ne : it ≠ c) (q : h.IsListIter it l i) : h'.IsListIter it l i := by
  obtain ⟨o, e, r⟩ := q
  exact ⟨o, by rw [sb.2 _ ne]; exact e, r⟩
theorem list_but {h h' : Heap} {c l : Addr} {xs : Array Value} (sb : Heap.SameBut c h h') (ne : l ≠ c) (q : h.IsList l xs) : h'.IsList l xs := by
  obtain ⟨o, e, r⟩ := q
  exact ⟨o, by rw [sb.2 _ ne]; exact e, r⟩
theorem owned_no {s : Shared} {fl : Bool} {Q : Bool → Shared → Prop}
    (hz : s.heap.get? z = some { cls := .type "zip", data := .fields #[.int (T0 : Int) t, .bool fl, .bool false, .ref TI, .ref TO] }) (hT : s.heap.get? T0 = some o)
    (q : ∀ h', h'.get? z = some { cls := .type "zip", data := .fields #[.int (T0 : Int) t, .bool true, .bool false, .ref TI, .ref TO] } → Heap.SameBut z s.heap h' →
      Q false { heap := h', gens := s.gens, drawn := s.drawn, toks := s.toks, os := s.os }) :
    wpAny (model prog w) A (Builtin.SmallTypes.ownedTupleIsFree (.ref z)) Q E s := by
  unfold Builtin.SmallTypes.ownedTupleIsFree
  refine wpAny_bind (wpAny_field hz rfl rfl ?_)
  dsimp only
  refine wpAny_bind (wpAny_alive ?_)
  rw [show ((T0 : Int)).toNat = T0 from Int.toNat_natCast T0, hT]
  rw [if_neg (by simp)]
  refine wpAny_bind (wpAny_field hz rfl rfl ?_)
  cases fl
  · split
    · refine wpAny_bind (wpAny_setField hz rfl (show 1 < 5 by decide) (wpAny_pure ?_))
      exact q _ (Heap.get?_update_self _ hz rfl) (Heap.SameBut.update _ _ _)
    · rename_i c
      exact absurd rfl c
  · split
    · rename_i c
      exact absurd c (by simp)
    · exact wpAny_pure (q s.heap hz ⟨rfl, fun _ _ => rfl⟩)
/-- one more pair, the elder one of the zip being held -/
theorem zip_again {s : Shared} {fl : Bool} {Q : PySem.Fin → Shared → Prop} (hA : A.handled = none) (ap : ZipApart z TI TO i1 i2 l1 l2)
    (hz : s.heap.get? z = some { cls := .type "zip", data := .fields #[.int (T0 : Int) t, .bool fl, .bool false, .ref TI, .ref TO] }) (hT : s.heap.get? T0 = some o)
    (hTI : s.heap.get? TI = some { cls := .type "tuple", data := .seq #[.ref i1, .ref i2] })
    (h1 : s.heap.IsListIter i1 l1 k) (h2 : s.heap.IsListIter i2 l2 k) (g1 : s.heap.IsList l1 xs) (g2 : s.heap.IsList l2 ys) (hx : xs[k]? = some x) (hy : ys[k]? = some y)
    (q : ∀ h' tk, h'.get? z = some { cls := .type "zip", data := .fields #[.int (T0 : Int) t, .bool true, .bool false, .ref TI, .ref TO] } → h'.IsListIter i1 l1 (k + 1) → h'.IsListIter i2 l2 (k + 1) →
      h'.get? s.heap.objs.size = some { cls := .type "tuple", data := .seq #[x, y] } → h'.objs.size = s.heap.objs.size + 1 →
      (∀ c o, c ≠ z → c ≠ i1 → c ≠ i2 → s.heap.get? c = some o → h'.get? c = some o) → Q (.done (.ret (.ref s.heap.objs.size))) { heap := h', gens := s.gens, drawn := s.drawn, toks := tk, os := s.os }) :
    wpAny (model prog w) A (Builtin.«zip.__next__» ⟨[.ref z], []⟩) Q E s := by
  unfold Builtin.«zip.__next__»
  repeat (first
    | (refine owned_no hz hT (fun h0 hz0 sb0 => ?_))
    | (refine draw1 hA ap.l2i2 (iter_but sb ap.i12.symm (iter_but sb0 ap.i2z h2)) (list_but sb ap.l2i1 (list_but sb0 ap.l2z g2)) hy (fun h3 tk3 j2 sb3 => ?_))
    | (refine draw1 hA ap.l1i1 (iter_but sb0 ap.i1z h1) (list_but sb0 ap.l1z g1) hx (fun h' tk j1 sb => ?_))
    | wp_step)
  have sz : h3.objs.size = s.heap.objs.size := sb3.1.trans (sb.1.trans sb0.1)
  have old : ∀ c o, c ≠ z → c ≠ i1 → c ≠ i2 → s.heap.get? c = some o → h3.get? c = some o := fun c o c1 c2 c3 h => by
    rw [sb3.2 c c3, sb.2 c c2, sb0.2 c c1]
    exact h
  have z3 : h3.get? z = some { cls := .type "zip", data := .fields #[.int (T0 : Int) t, .bool true, .bool false, .ref TI, .ref TO] } := by
    rw [sb3.2 z ap.i2z.symm, sb.2 z ap.i1z.symm]
    exact hz0
  rw [sz]
  refine q _ _ (Heap.get?_push_of_some _ z3) ?_ ?_ ?_ ?_ ?_
  · obtain ⟨o, e, r⟩ := iter_but sb3 ap.i12 j1
    exact ⟨o, Heap.get?_push_of_some _ e, r⟩
  · obtain ⟨o, e, r⟩ := j2
    exact ⟨o, Heap.get?_push_of_some _ e, r⟩
  · rw [← sz]
    exact Heap.get?_push_size _ rfl
  · rw [Heap.size_push, sz]
  · intro c o c1 c2 c3 h
    exact Heap.get?_push_of_some _ (old c o c1 c2 c3 h)
end
end Rs
namespace Rs
open PySem PySem.Spec PyProof.Rows L2
section
variable {prog : Program} {w : World} {A : Around} {E : Value → Shared → Prop} {z TI TO i1 i2 l1 l2 T0 : Addr} {k : Nat} {xs ys : Array Value} {x y a b : Value} {o : Obj} {t : Tok} 
theorem draw_end {s : Shared} {it l : Addr} (hA : A.handled = none) (ne : l ≠ it) (h1 : s.heap.IsListIter it l xs.size) (h2 : s.heap.IsList l xs) {Q : Value → Shared → Prop}
    (q : ∀ h' e, Heap.ExtBut it s.heap h' → (∃ o, h'.get? e = some o ∧ o.cls = .type "StopIteration") → E (.ref e) { heap := h', gens := s.gens, drawn := s.drawn, toks := s.toks, os := s.os }) : wpAny (model prog w) A (Builtin.SmallTypes.nextOf (.ref it)) Q E s :=
  (Draws.list (prog := prog) (w := w) hA it l ne xs).done s Q E ⟨h1, h2⟩ q
/-- the first list is at its end -/
theorem zip_over {s : Shared} {fl : Bool} {Q : PySem.Fin → Shared → Prop} (hA : A.handled = none) (ap : ZipApart z TI TO i1 i2 l1 l2)
    (hz : s.heap.get? z = some { cls := .type "zip", data := .fields #[.int (T0 : Int) t, .bool fl, .bool false, .ref TI, .ref TO] }) (hT : s.heap.get? T0 = some o)
    (hTI : s.heap.get? TI = some { cls := .type "tuple", data := .seq #[.ref i1, .ref i2] })
    (h1 : s.heap.IsListIter i1 l1 xs.size) (g1 : s.heap.IsList l1 xs)
    (q : ∀ h' e, (∀ c o, c ≠ z → c ≠ i1 → s.heap.get? c = some o → h'.get? c = some o) → (∃ o, h'.get? e = some o ∧ o.cls = .type "StopIteration") → E (.ref e) { heap := h', gens := s.gens, drawn := s.drawn, toks := s.toks, os := s.os }) :
    wpAny (model prog w) A (Builtin.«zip.__next__» ⟨[.ref z], []⟩) Q E s := by
  unfold Builtin.«zip.__next__»
  repeat (first
    | (refine owned_no hz hT (fun h0 hz0 sb0 => ?_))
    | (refine draw_end hA ap.l1i1 (iter_but sb0 ap.i1z h1) (list_but sb0 ap.l1z g1) (fun h' e ex ho => q h' e (fun c o c1 c2 h => ex c o c2 (by rw [sb0.2 c c1]; exact h)) ho))
    | wp_step)
theorem zip_next {s : Shared} {Q : Option Value → Shared → Prop} {fl : Bool} (hA : A.handled = none) (ap : ZipApart z TI TO i1 i2 l1 l2)
    (hz : s.heap.get? z = some { cls := .type "zip", data := .fields #[.int (T0 : Int) t, .bool fl, .bool false, .ref TI, .ref TO] }) (hT : s.heap.get? T0 = some o)
    (hTI : s.heap.get? TI = some { cls := .type "tuple", data := .seq #[.ref i1, .ref i2] })
    (h1 : s.heap.IsListIter i1 l1 k) (h2 : s.heap.IsListIter i2 l2 k) (g1 : s.heap.IsList l1 xs) (g2 : s.heap.IsList l2 ys) (hx : xs[k]? = some x) (hy : ys[k]? = some y)
    (q : ∀ h' tk, h'.get? z = some { cls := .type "zip", data := .fields #[.int (T0 : Int) t, .bool true, .bool false, .ref TI, .ref TO] } → h'.IsListIter i1 l1 (k + 1) → h'.IsListIter i2 l2 (k + 1) →
      h'.get? s.heap.objs.size = some { cls := .type "tuple", data := .seq #[x, y] } → h'.objs.size = s.heap.objs.size + 1 →
      (∀ c o, c ≠ z → c ≠ i1 → c ≠ i2 → s.heap.get? c = some o → h'.get? c = some o) → Q (some (.ref s.heap.objs.size)) { heap := h', gens := s.gens, drawn := s.drawn, toks := tk, os := s.os }) :
    wpAny (model prog w) A (pyNext (.ref z)) Q E s := by
  unfold pyNext
  refine wpAny_bind (wpAny_attempt (wpAny_callSpecial?_slot (T := "zip") ⟨_, hz, rfl⟩ F.slot_zip_next (wpAny_call (codeAny_call_builtin F.slot_zip_next.plain F.entry_zip_next ?_))))
  refine F.slot_zip_next.check _ _ _ s (.ref z) [] [] _ ⟨_, hz, rfl⟩ (F.args_zip_next_1 _) ?_
  exact zip_again (A := A.in1) hA ap hz hT hTI h1 h2 g1 g2 hx hy (fun h' tk a1 a2 a3 a4 a5 a6 => wpAny_pure (q h' tk a1 a2 a3 a4 a5 a6))
theorem zip_end {s : Shared} {Q : Option Value → Shared → Prop} {fl : Bool} (hA : A.handled = none) (ap : ZipApart z TI TO i1 i2 l1 l2)
    (hz : s.heap.get? z = some { cls := .type "zip", data := .fields #[.int (T0 : Int) t, .bool fl, .bool false, .ref TI, .ref TO] }) (hT : s.heap.get? T0 = some o)
    (hTI : s.heap.get? TI = some { cls := .type "tuple", data := .seq #[.ref i1, .ref i2] })
    (h1 : s.heap.IsListIter i1 l1 xs.size) (g1 : s.heap.IsList l1 xs)
    (q : ∀ h', (∀ c o, c ≠ z → c ≠ i1 → s.heap.get? c = some o → h'.get? c = some o) → Q none { heap := h', gens := s.gens, drawn := s.drawn, toks := s.toks, os := s.os }) :
    wpAny (model prog w) A (pyNext (.ref z)) Q E s := by
  unfold pyNext
  refine wpAny_bind (wpAny_attempt (wpAny_callSpecial?_slot (T := "zip") ⟨_, hz, rfl⟩ F.slot_zip_next (wpAny_call (codeAny_call_builtin F.slot_zip_next.plain F.entry_zip_next ?_))))
  refine F.slot_zip_next.check _ _ _ s (.ref z) [] [] _ ⟨_, hz, rfl⟩ (F.args_zip_next_1 _) ?_
  refine zip_over (A := A.in1) hA ap hz hT hTI h1 g1 (fun h' e old ho => ?_)
  obtain ⟨o, ho, hc⟩ := ho
  dsimp only
  refine wpAny_bind (wpAny_isInstance (T := "StopIteration") (b := true) ⟨o, ho, hc⟩ (by first | rfl | simp [isSubtype] | decide) ?_)
  rw [if_pos rfl]
  exact wpAny_pure (q h' old)
/-- how a zip stands behind k pairs, the first one at T0 -/
structure ZSt (h : Heap) (z TI TO i1 i2 l1 l2 T0 : Addr) (xs ys : Array Value) (k : Nat) : Prop where
  zip : ∃ t fl, h.get? z = some { cls := .type "zip", data := .fields #[.int (T0 : Int) t, .bool fl, .bool false, .ref TI, .ref TO] }
  old : ∃ o, h.get? T0 = some o
  its : h.get? TI = some { cls := .type "tuple", data := .seq #[.ref i1, .ref i2] }
  at1 : h.IsListIter i1 l1 k
  at2 : h.IsListIter i2 l2 k
  li1 : h.IsList l1 xs
  li2 : h.IsList l2 ys
/-- the pairs laid down so far -/
structure ZOut (h : Heap) (lo : Nat) (xs ys : Array Value) (as : List Addr) : Prop where
  rise : as.Pairwise (· < ·)
  above : ∀ a ∈ as, lo ≤ a
  pairs : ∀ (j : Nat) (a : Addr), as[j]? = some a → ∃ x y, xs[j]? = some x ∧ ys[j]? = some y ∧ h.get? a = some { cls := .type "tuple", data := .seq #[x, y] }
theorem far {a b lo : Nat} (h : b < lo) (h2 : lo ≤ a) : a ≠ b := by omega
theorem ZOut.snoc {h h' : Heap} {lo : Nat} {xs ys : Array Value} {as : List Addr} {x y : Value} {n : Nat} (q : ZOut h lo xs ys as) (hn : as.length = n) (hx : xs[n]? = some x) (hy : ys[n]? = some y) (ho : ∀ a ∈ as, ∀ o, h.get? a = some o → h'.get? a = some o) (hl : lo ≤ h.objs.size)
    (hw : h'.get? h.objs.size = some { cls := .type "tuple", data := .seq #[x, y] }) : ZOut h' lo xs ys (as ++ [h.objs.size]) where
  rise := by
    rw [List.pairwise_append]
    refine ⟨q.rise, List.pairwise_singleton _ _, fun a ha b hb => ?_⟩
    rw [List.mem_singleton] at hb
    subst hb
    obtain ⟨j, hj⟩ := List.getElem?_of_mem ha
    obtain ⟨_, _, _, _, e⟩ := q.pairs j a hj
    exact Heap.lt_size e
  above := fun a ha => by
    rcases List.mem_append.mp ha with ha | ha
    · exact q.above a ha
    · rw [List.mem_singleton] at ha
      exact ha ▸ hl
  pairs := fun j a e => by
    rcases Nat.lt_or_ge j as.length with lt | ge
    · rw [List.getElem?_append_left lt] at e
      obtain ⟨x', y', ex, ey, et⟩ := q.pairs j a e
      exact ⟨x', y', ex, ey, ho a (List.mem_of_getElem? e) _ et⟩
    · rw [List.getElem?_append_right ge] at e
      have j0 : j - as.length = 0 := by
        rcases Nat.eq_zero_or_pos (j - as.length) with z | z
        · exact z
        · rw [List.getElem?_eq_none (by simp; omega)] at e
          cases e
      rw [j0] at e
      injection e with e
      subst e
      have : j = n := by omega
      subst this
      exact ⟨x, y, hx, hy, hw⟩
theorem quietL {args : Args} : (Code.builtin "list.extend.loop" args).quiet = true := by
  first | exact Code.quiet_builtin _ (by decide +kernel) | exact plainId_quiet (by decide +kernel) _
theorem zip_loop {R : Result → Shared → Prop} (hA : A.handled = none) (ap : ZipApart z TI TO i1 i2 l1 l2) (hl : xs.size = ys.size) (hs : xs.size ≤ sizeLine) {S : Addr} (ne : S ≠ z ∧ S ≠ TI ∧ S ≠ i1 ∧ S ≠ i2 ∧ S ≠ l1 ∧ S ≠ l2 ∧ S ≠ T0 ∧ S ≠ TO) (T0z : T0 ≠ z ∧ T0 ≠ i1 ∧ T0 ≠ i2) (res : Value) {lo : Nat} (lz : z < lo ∧ i1 < lo ∧ i2 < lo ∧ S < lo) (h0 : Heap) (s0 : Shared)
    (fin : ∀ (s' : Shared) (acc : Array Value) (c : Nat) (as : List Addr), s'.gens = s0.gens ∧ s'.drawn = s0.drawn ∧ s'.os = s0.os → (∀ b o, b ≠ z → b ≠ i1 → b ≠ i2 → b ≠ S → h0.get? b = some o → s'.heap.get? b = some o) → s'.heap.get? S = some { cls := .type "list", data := .seq acc c } →
      acc.toList = as.map Value.ref → as.length = xs.size → ZOut s'.heap lo xs ys as → R (.ok (.ret res)) s') :
    ∀ (d k : Nat) (s : Shared) (acc : Array Value) (c : Nat) (as : List Addr), (s.gens = s0.gens ∧ s.drawn = s0.drawn ∧ s.os = s0.os) → xs.size - k = d → k ≤ xs.size → lo ≤ s.heap.objs.size → ZSt s.heap z TI TO i1 i2 l1 l2 T0 xs ys k → (∀ b o, b ≠ z → b ≠ i1 → b ≠ i2 → b ≠ S → h0.get? b = some o → s.heap.get? b = some o) →
      s.heap.get? S = some { cls := .type "list", data := .seq acc c } → acc.toList = as.map Value.ref → as.length = k → ZOut s.heap lo xs ys as →
      codeAny (model prog w) A (.builtin "list.extend.loop" { pos := [.ref S, .ref z, res] }) R s := by
  intro d
  induction d with
  | zero =>
    intro k s acc c as he hd hk hlo zs old hS ha hn zo
    obtain ⟨t, fl, hz⟩ := zs.zip
    obtain ⟨o, hT⟩ := zs.old
    have ek : k = xs.size := by omega
    subst ek
    refine codeAny_builtin F.entry_extend_loop ?_
    unfold Builtin.«list.extend.loop»
    dsimp only
    refine wpAny_bind (zip_end (A := A.under _) hA ap hz hT zs.its zs.at1 zs.li1 (fun h' kp => ?_))
    dsimp only
    have kS : ∀ b o, b ≠ z → b ≠ i1 → b ≠ i2 → b ≠ S → h0.get? b = some o → h'.get? b = some o := fun b o b1 b2 b3 b4 h => kp b o b1 b2 (old b o b1 b2 b3 b4 h)
    refine wpAny_pure (fin _ acc c as he kS (kp _ _ ne.1 ne.2.2.1 hS) ha hn ⟨zo.rise, zo.above, fun j a e => ?_⟩)
    obtain ⟨x, y, ex, ey, et⟩ := zo.pairs j a e
    have := zo.above a (List.mem_of_getElem? e)
    exact ⟨x, y, ex, ey, kp _ _ (far lz.1 this) (far lz.2.1 this) et⟩
  | succ d ih =>
    intro k s acc c as he hd hk hlo zs old hS ha hn zo
    obtain ⟨t, fl, hz⟩ := zs.zip
    obtain ⟨o, hT⟩ := zs.old
    have lt : k < xs.size := by omega
    have lt2 : k < ys.size := by omega
    have hx : xs[k]? = some xs[k] := Array.getElem?_eq_getElem lt
    have hy : ys[k]? = some ys[k] := Array.getElem?_eq_getElem lt2
    have al : acc.size = k := by
      have := congrArg List.length ha
      rw [Array.length_toList, List.length_map] at this
      omega
    refine codeAny_builtin F.entry_extend_loop ?_
    unfold Builtin.«list.extend.loop»
    dsimp only
    refine wpAny_bind (zip_next (A := A.under _) hA ap hz hT zs.its zs.at1 zs.at2 zs.li1 zs.li2 hx hy (fun h' tk z' j1 j2 tp sz kp => ?_))
    dsimp only
    have hS' := kp S _ ne.1 ne.2.2.1 ne.2.2.2.1 hS
    refine wpAny_bind (wpAny_updateSeq (f := fun v => v.push (.ref s.heap.objs.size)) hS' rfl ?_ (by omega) (by rw [Array.size_push]; omega))
    have sb := Heap.SameBut.update h' S (Obj.mapSeq fun v => v.push (.ref s.heap.objs.size))
    have hS2 := Heap.get?_update_self (Obj.mapSeq fun v => v.push (.ref s.heap.objs.size)) hS' rfl
    generalize h'.update S (Obj.mapSeq fun v => v.push (.ref s.heap.objs.size)) = h2 at sb hS2
    have nS : s.heap.objs.size ≠ S := far lz.2.2.2 hlo
    have kp2 : ∀ b o, b ≠ z → b ≠ i1 → b ≠ i2 → b ≠ S → s.heap.get? b = some o → h2.get? b = some o := fun b o b1 b2 b3 b4 h => by
      rw [sb.2 b b4]
      exact kp b o b1 b2 b3 h
    have lst : ∀ {l : Addr} {vs : Array Value}, l ≠ z → l ≠ i1 → l ≠ i2 → S ≠ l → s.heap.IsList l vs → h2.IsList l vs := fun n1 n2 n3 n4 q => by
      obtain ⟨o, e, r⟩ := q
      exact ⟨o, kp2 _ _ n1 n2 n3 n4.symm e, r⟩
    refine wpAny_pure ⟨quietL, ih (k + 1) _ _ _ (as ++ [s.heap.objs.size]) he (by omega) lt (by show lo ≤ h2.objs.size; rw [sb.1, sz]; omega) ⟨⟨t, true, ?_⟩, ⟨o, kp2 _ _ T0z.1 T0z.2.1 T0z.2.2 ne.2.2.2.2.2.2.1.symm hT⟩, kp2 _ _ ap.TIz ap.TIi1 ap.TIi2 ne.2.1.symm zs.its, iter_but sb ne.2.2.1.symm j1, iter_but sb ne.2.2.2.1.symm j2, lst ap.l1z ap.l1i1 ap.l1i2 ne.2.2.2.2.1 zs.li1, lst ap.l2z ap.l2i1 ap.l2i2 ne.2.2.2.2.2.1 zs.li2⟩ (fun b o b1 b2 b3 b4 h => kp2 b o b1 b2 b3 b4 (old b o b1 b2 b3 b4 h)) hS2 ?_ (by rw [List.length_append, hn]; rfl) (zo.snoc hn hx hy (fun a ha' o e => ?_) hlo ?_)⟩
    · show h2.get? z = _
      rw [sb.2 z ne.1.symm]
      exact z'
    · rw [Array.toList_push, ha, List.map_append]
      rfl
    · have := zo.above a ha'
      exact kp2 a o (far lz.1 this) (far lz.2.1 this) (far lz.2.2.1 this) (far lz.2.2.2 this) e
    · show h2.get? _ = _
      rw [sb.2 _ nS]
      exact tp
end
end Rs
open PySem PySem.Spec PyProof.Rows L2
namespace Rs
section
variable {prog : Program} {w : World} {A : Around} {E : Value → Shared → Prop} {z TI TO i1 i2 l1 l2 T0 : Addr} {k : Nat} {xs ys : Array Value} {x y a b : Value} {o : Obj} {t : Tok} 
theorem zip_nolen : typeLookup (.type "zip") (Str.ofString "__len__") = pure none := rfl
theorem zip_nohint : typeLookup (.type "zip") (Str.ofString "__length_hint__") = pure none := rfl
/-- how a new zip stands -/
structure ZNew (h : Heap) (z TI TO i1 i2 l1 l2 : Addr) (xs ys : Array Value) : Prop where
  zip : IsZip h z TI TO .none
  its : IsPair h TI (.ref i1) (.ref i2)
  own : IsPair h TO .none .none
  at1 : h.IsListIter i1 l1 0
  at2 : h.IsListIter i2 l2 0
  li1 : h.IsList l1 xs
  li2 : h.IsList l2 ys
theorem ext_zip {R : Result → Shared → Prop} {s : Shared} {S : Addr} {res : Value} {c0 : Nat} (hA : A.handled = none) (ap : ZipApart z TI TO i1 i2 l1 l2)
    (zn : ZNew s.heap z TI TO i1 i2 l1 l2 xs ys) (nSz : S ≠ z)
    (hS : s.heap.get? S = some { cls := .type "list", data := .seq #[] c0 })
    (q : ∀ h' c, h'.get? S = some { cls := .type "list", data := .seq #[] c } → Heap.SameBut S s.heap h' → codeAny (model prog w) A (.builtin "list.extend.loop" { pos := [.ref S, .ref z, res] }) R { s with heap := h' }) :
    wpAny (model prog w) A.in1 (Builtin.List.listExtendWith (.ref S) (.ref z) res)
      (fun fin s' => match fin with | .done f => R (.ok f) s' | .again c' => c'.quiet = true ∧ codeAny (model prog w) A c' R s') (fun e s' => R (.error e) s') s := by
  have hz := zn.zip
  have iter : ∀ {E1 : Value → Shared → Prop} {Q1 : Value → Shared → Prop}, Q1 (.ref z) s → wpAny (model prog w) A.in1 (pyIter (.ref z)) Q1 E1 s := fun {E1 Q1} h1 =>
    (WalksT.zip2 (A := A.in1) hA z TI TO i1 i2 l1 l2 ap xs ys).self 0 s Q1 E1 ⟨zn.zip, zn.its, ⟨_, _, zn.own⟩, zn.at1, zn.at2, zn.li1, zn.li2⟩ h1
  have hint : ∀ {A1 : Around} {E1 : Value → Shared → Prop} {Q1 : Bool → Shared → Prop}, Q1 true s → wpAny (model prog w) A1 (Builtin.List.listLengthHint (.ref z)) Q1 E1 s := by
    intro A1 E1 Q1 h1
    unfold Builtin.List.listLengthHint
    repeat (first | (refine wpAny_of_eq zip_nolen ?_) | (refine wpAny_of_eq zip_nohint ?_) | wp_step)
    exact h1
  unfold Builtin.List.listExtendWith
  have sr : (Builtin.List.listSameRef (.ref S) (.ref z) || Value.type "zip" == Value.type "list" || Value.type "zip" == Value.type "tuple") = false := by
    have : Builtin.List.listSameRef (.ref S) (.ref z) = false := by
      unfold Builtin.List.listSameRef
      first | exact beq_false_of_ne nSz | simpa using nSz | simp [nSz]
    rw [this]
    rfl
  refine wpAny_bind (wpAny_typeOf_ref hz ?_)
  rw [sr]
  rw [if_neg (by decide)]
  refine wpAny_bind (iter ?_)
  refine wpAny_bind (wpAny_holding (hint ?_))
  dsimp only
  rw [Bool.true_or, if_pos rfl]
  repeat wp_step
  have s1 := Heap.SameBut.update s.heap S (Obj.mapSeq fun x => x.push Value.none)
  have g1 := Heap.get?_update_self (Obj.mapSeq fun x => x.push Value.none) hS rfl
  have s2 := Heap.SameBut.update (s.heap.update S (Obj.mapSeq fun x => x.push Value.none)) S (Obj.mapSeq fun x => x.pop)
  have g2 := Heap.get?_update_self (Obj.mapSeq fun x => x.pop) g1 rfl
  exact ⟨quietL, q _ _ g2 ⟨s2.1.trans s1.1, fun b hb => (s2.2 b hb).trans (s1.2 b hb)⟩⟩
theorem rawInt_is (n : Nat) : ∃ t, rawInt (n : Int) = .int (n : Int) t := ⟨_, rfl⟩
/-- the walk from the first pair on -/
theorem zip_walk {R : Result → Shared → Prop} {s : Shared} {S : Addr} {c0 : Nat} (hA : A.handled = none) (ap : ZipApart z TI TO i1 i2 l1 l2) (hl : xs.size = ys.size) (n0 : 0 < xs.size) (hs : xs.size ≤ sizeLine) (res : Value)
    (zn : ZNew s.heap z TI TO i1 i2 l1 l2 xs ys) (ne : S ≠ z ∧ S ≠ TI ∧ S ≠ i1 ∧ S ≠ i2 ∧ S ≠ l1 ∧ S ≠ l2 ∧ S ≠ TO)
    (hS : s.heap.get? S = some { cls := .type "list", data := .seq #[] c0 })
    (fin : ∀ (s' : Shared) (acc : Array Value) (c : Nat) (as : List Addr), s'.gens = s.gens ∧ s'.drawn = s.drawn ∧ s'.os = s.os → (∀ b o, b ≠ z → b ≠ TO → b ≠ i1 → b ≠ i2 → b ≠ S → s.heap.get? b = some o → s'.heap.get? b = some o) → s'.heap.get? S = some { cls := .type "list", data := .seq acc c } →
      acc.toList = as.map Value.ref → as.length = xs.size → ZOut s'.heap s.heap.objs.size xs ys as → R (.ok (.ret res)) s') :
    codeAny (model prog w) A (.builtin "list.extend.loop" { pos := [.ref S, .ref z, res] }) R s := by
  have lt2 : 0 < ys.size := by omega
  have hx : xs[0]? = some xs[0] := Array.getElem?_eq_getElem n0
  have hy : ys[0]? = some ys[0] := Array.getElem?_eq_getElem lt2
  have bz := Heap.lt_size zn.zip
  have bS := Heap.lt_size hS
  have b1 : i1 < s.heap.objs.size := by
    obtain ⟨o, e, _⟩ := zn.at1
    exact Heap.lt_size e
  have b2 : i2 < s.heap.objs.size := by
    obtain ⟨o, e, _⟩ := zn.at2
    exact Heap.lt_size e
  refine codeAny_builtin F.entry_extend_loop ?_
  unfold Builtin.«list.extend.loop»
  dsimp only
  refine wpAny_bind (wpAny_pyNext_zip_item ap zn.zip zn.its zn.own zn.at1 zn.at2 zn.li1 zn.li2 hx hy (fun h' z' to' j1 j2 tp sz kp => ?_))
  dsimp only
  have hS' := kp S _ ne.1 ne.2.2.2.2.2.2 ne.2.2.1 ne.2.2.2.1 hS
  refine wpAny_bind (wpAny_updateSeq (f := fun v => v.push (.ref s.heap.objs.size)) hS' rfl ?_ (by decide) (by show 1 ≤ sizeLine + 1; omega))
  have sb := Heap.SameBut.update h' S (Obj.mapSeq fun v => v.push (.ref s.heap.objs.size))
  have hS2 := Heap.get?_update_self (Obj.mapSeq fun v => v.push (.ref s.heap.objs.size)) hS' rfl
  generalize h'.update S (Obj.mapSeq fun v => v.push (.ref s.heap.objs.size)) = h2 at sb hS2
  have nS : s.heap.objs.size ≠ S := far bS (Nat.le_refl _)
  have kp2 : ∀ b o, b ≠ z → b ≠ TO → b ≠ i1 → b ≠ i2 → b ≠ S → s.heap.get? b = some o → h2.get? b = some o := fun b o b1 b2 b3 b4 b5 h => by
    rw [sb.2 b b5]
    exact kp b o b1 b2 b3 b4 h
  have lst : ∀ {l : Addr} {vs : Array Value}, l ≠ z → l ≠ TO → l ≠ i1 → l ≠ i2 → S ≠ l → s.heap.IsList l vs → h2.IsList l vs := fun n1 n2 n3 n4 n5 q => by
    obtain ⟨o, e, r⟩ := q
    exact ⟨o, kp2 _ _ n1 n2 n3 n4 n5.symm e, r⟩
  have tp2 : h2.get? s.heap.objs.size = some { cls := .type "tuple", data := .seq #[xs[0], ys[0]] } := by
    rw [sb.2 _ nS]
    exact tp
  obtain ⟨t, et⟩ := rawInt_is s.heap.objs.size
  refine wpAny_pure ⟨quietL, zip_loop (T0 := s.heap.objs.size) hA ap hl hs ⟨ne.1, ne.2.1, ne.2.2.1, ne.2.2.2.1, ne.2.2.2.2.1, ne.2.2.2.2.2.1, nS.symm, ne.2.2.2.2.2.2⟩ ⟨far bz (Nat.le_refl _), far b1 (Nat.le_refl _), far b2 (Nat.le_refl _)⟩ res (lo := s.heap.objs.size) ⟨bz, b1, b2, bS⟩ h2 s
    (fun s' acc c as he old hS3 ha hn zo => fin s' acc c as he (fun b o n1 n2 n3 n4 n5 h => old b o n1 n3 n4 n5 (kp2 b o n1 n2 n3 n4 n5 h)) hS3 ha hn zo)
    (xs.size - 1) 1 _ _ _ [s.heap.objs.size] ⟨rfl, rfl, rfl⟩ rfl n0 (by show s.heap.objs.size ≤ h2.objs.size; rw [sb.1, sz]; omega)
    ⟨⟨t, false, ?_⟩, ⟨_, tp2⟩, kp2 _ _ ap.TIz ap.TITO ap.TIi1 ap.TIi2 ne.2.1.symm zn.its, iter_but sb ne.2.2.1.symm j1, iter_but sb ne.2.2.2.1.symm j2, lst ap.l1z ap.l1TO ap.l1i1 ap.l1i2 ne.2.2.2.2.1 zn.li1, lst ap.l2z ap.l2TO ap.l2i1 ap.l2i2 ne.2.2.2.2.2.1 zn.li2⟩
    (fun b o _ _ _ _ h => h) hS2 rfl rfl ⟨List.pairwise_singleton _ _, fun a ha => by rw [List.mem_singleton.mp ha]; exact Nat.le_refl _, fun j a e => ?_⟩⟩
  · show h2.get? z = _
    rw [sb.2 z ne.1.symm, ← et]
    exact z'
  · cases j with
    | zero =>
      injection e with e
      subst e
      exact ⟨_, _, hx, hy, tp2⟩
    | succ j => cases e
end
end Rs
open PySem PySem.Spec PyProof.Rows L2
namespace Rs
section
variable {prog : Program} {w : World} {A : Around} {E : Value → Shared → Prop} {z TI TO i1 i2 l1 l2 T0 : Addr} {k : Nat} {xs ys : Array Value} {x y a b : Value} {o : Obj} {t : Tok} 
theorem ZNew.kept {h h' : Heap} (q : ZNew h z TI TO i1 i2 l1 l2 xs ys) (k : ∀ b o, h.get? b = some o → h'.get? b = some o) : ZNew h' z TI TO i1 i2 l1 l2 xs ys where
  zip := k _ _ q.zip
  its := k _ _ q.its
  own := k _ _ q.own
  at1 := by
    obtain ⟨o, e, r⟩ := q.at1
    exact ⟨o, k _ _ e, r⟩
  at2 := by
    obtain ⟨o, e, r⟩ := q.at2
    exact ⟨o, k _ _ e, r⟩
  li1 := by
    obtain ⟨o, e, r⟩ := q.li1
    exact ⟨o, k _ _ e, r⟩
  li2 := by
    obtain ⟨o, e, r⟩ := q.li2
    exact ⟨o, k _ _ e, r⟩
theorem init_zip {R : Result → Shared → Prop} {s : Shared} {S : Addr} {c0 : Nat} (hA : A.handled = none) (ap : ZipApart z TI TO i1 i2 l1 l2) (hl : xs.size = ys.size) (n0 : 0 < xs.size) (hs : xs.size ≤ sizeLine)
    (zn : ZNew s.heap z TI TO i1 i2 l1 l2 xs ys) (ne : S ≠ z ∧ S ≠ TI ∧ S ≠ i1 ∧ S ≠ i2 ∧ S ≠ l1 ∧ S ≠ l2 ∧ S ≠ TO)
    (hS : s.heap.get? S = some { cls := .type "list", data := .seq #[] c0 })
    (fin : ∀ (s' : Shared) (acc : Array Value) (c : Nat) (as : List Addr), s'.gens = s.gens ∧ s'.drawn = s.drawn ∧ s'.os = s.os → (∀ b o, b ≠ z → b ≠ TO → b ≠ i1 → b ≠ i2 → b ≠ S → s.heap.get? b = some o → s'.heap.get? b = some o) → s'.heap.get? S = some { cls := .type "list", data := .seq acc c } →
      acc.toList = as.map Value.ref → as.length = xs.size → ZOut s'.heap s.heap.objs.size xs ys as → R (.ok (.ret .none)) s') :
    codeAny (model prog w) A (.call (.builtin "list.__init__") { pos := [.ref S, .ref z] }) R s := by
  refine codeAny_call_builtin F.called_list.init.plain F.entry_list_init (F.called_list.init.check _ _ _ s (.ref S) [.ref z] [] _ ⟨_, hS, rfl⟩ rfl ?_)
  unfold Builtin.«list.__init__»
  dsimp only
  have hU := Heap.get?_update_self (Obj.mapSeq fun _ => #[]) hS rfl
  have sU := Heap.SameBut.update s.heap S (Obj.mapSeq fun _ => #[])
  have step : wpAny (model prog w) A.in1 (Builtin.List.listExtendWith (.ref S) (.ref z) .none)
      (fun fin s' => match fin with | .done f => R (.ok f) s' | .again c' => c'.quiet = true ∧ codeAny (model prog w) A c' R s') (fun e s' => R (.error e) s') { s with heap := s.heap.update S (Obj.mapSeq fun _ => #[]) } := by
    have kp : ∀ b o, b ≠ S → s.heap.get? b = some o → (s.heap.update S (Obj.mapSeq fun _ => #[])).get? b = some o := fun b o nb h => by
      rw [sU.2 b nb]
      exact h
    have znU : ZNew (s.heap.update S (Obj.mapSeq fun _ => #[])) z TI TO i1 i2 l1 l2 xs ys := by
      refine ⟨kp _ _ ne.1.symm zn.zip, kp _ _ ne.2.1.symm zn.its, kp _ _ ne.2.2.2.2.2.2.symm zn.own, iter_but sU ne.2.2.1.symm zn.at1, iter_but sU ne.2.2.2.1.symm zn.at2, list_but sU ne.2.2.2.2.1.symm zn.li1, list_but sU ne.2.2.2.2.2.1.symm zn.li2⟩
    refine ext_zip (xs := xs) (ys := ys) hA ap znU ne.1 hU (fun h' c hS' sb => ?_)
    have kp2 : ∀ b o, b ≠ S → s.heap.get? b = some o → h'.get? b = some o := fun b o nb h => by
      rw [sb.2 b nb]
      exact kp b o nb h
    have zn2 : ZNew h' z TI TO i1 i2 l1 l2 xs ys := by
      refine ⟨kp2 _ _ ne.1.symm zn.zip, kp2 _ _ ne.2.1.symm zn.its, kp2 _ _ ne.2.2.2.2.2.2.symm zn.own, iter_but sb ne.2.2.1.symm znU.at1, iter_but sb ne.2.2.2.1.symm znU.at2, list_but sb ne.2.2.2.2.1.symm znU.li1, list_but sb ne.2.2.2.2.2.1.symm znU.li2⟩
    have sz : h'.objs.size = s.heap.objs.size := sb.1.trans sU.1
    refine zip_walk hA ap hl n0 hs .none zn2 ne hS' (fun s' acc c as he old h3 ha hn zo => fin s' acc c as he (fun b o b1 b2 b3 b4 b5 h => old b o b1 b2 b3 b4 b5 (kp2 b o b5 h)) h3 ha hn ?_)
    rw [← sz]
    exact zo
  repeat (first
    | (refine step)
    | wp_step)
/-- list(z), z a new zip of two lists of one length -/
theorem call_list_zip {s : Shared} {Q : Value → Shared → Prop} (hA : A.handled = none) (ap : ZipApart z TI TO i1 i2 l1 l2) (hl : xs.size = ys.size) (n0 : 0 < xs.size) (hs : xs.size ≤ sizeLine)
    (zn : ZNew s.heap z TI TO i1 i2 l1 l2 xs ys)
    (fin : ∀ (s' : Shared) (acc : Array Value) (c : Nat) (as : List Addr), s'.gens = s.gens ∧ s'.drawn = s.drawn ∧ s'.os = s.os → (∀ b o, b ≠ z → b ≠ TO → b ≠ i1 → b ≠ i2 → s.heap.get? b = some o → s'.heap.get? b = some o) → s'.heap.get? s.heap.objs.size = some { cls := .type "list", data := .seq acc c } →
      acc.toList = as.map Value.ref → as.length = xs.size → ZOut s'.heap (s.heap.objs.size + 1) xs ys as → Q (.ref s.heap.objs.size) s') :
    wpAny (model prog w) A (call (.type "list") [.ref z]) Q E s := by
  have lt : ∀ b o, s.heap.get? b = some o → b ≠ s.heap.objs.size := fun b o e => (far (Heap.lt_size e) (Nat.le_refl _)).symm
  have ne : s.heap.objs.size ≠ z ∧ s.heap.objs.size ≠ TI ∧ s.heap.objs.size ≠ i1 ∧ s.heap.objs.size ≠ i2 ∧ s.heap.objs.size ≠ l1 ∧ s.heap.objs.size ≠ l2 ∧ s.heap.objs.size ≠ TO := by
    obtain ⟨_, a1, _⟩ := zn.at1
    obtain ⟨_, a2, _⟩ := zn.at2
    obtain ⟨_, a3, _⟩ := zn.li1
    obtain ⟨_, a4, _⟩ := zn.li2
    exact ⟨(lt _ _ zn.zip).symm, (lt _ _ zn.its).symm, (lt _ _ a1).symm, (lt _ _ a2).symm, (lt _ _ a3).symm, (lt _ _ a4).symm, (lt _ _ zn.own).symm⟩
  have zn2 : ZNew (s.heap.push { cls := .type "list", data := .seq #[] }) z TI TO i1 i2 l1 l2 xs ys := zn.kept fun b o e => Heap.get?_push_of_some _ e
  refine wpAny_call (codeAny_of_tree ?_)
  have e : (model prog w).den (Code.call (Value.type "list") { pos := [Value.ref z] }) = denote table (Code.call (Value.type "list") { pos := [Value.ref z] }) := rfl
  rw [e]
  unfold denote
  dsimp only
  unfold callAny
  dsimp only
  refine wpAny_pure ⟨Code.quiet_builtin _ (by decide +kernel), codeAny_builtin F.entry_type_call ?_⟩
  unfold Builtin.«type.__call__»
  dsimp only
  repeat (first
    | (refine wpAny_of_eq (F.typeCall_list_1 _) ?_)
    | (refine wpAny_of_eq F.called_list.made ?_)
    | (refine wpAny_call (code_list_new _ ?_))
    | (refine wpAny_isInstance (T := "list") ⟨_, Heap.get?_push_size _ rfl, rfl⟩ F.called_list.sub ?_)
    | (refine wpAny_callSpecial?_slot (T := "list") ⟨_, Heap.get?_push_size _ rfl, rfl⟩ F.called_list.init (wpAny_call (init_zip (A := A.under _) hA ap hl n0 hs zn2 ne (Heap.get?_push_size _ rfl) (fun s' acc c as he old h3 ha hn zo => ?_))))
    | wp_step)
  refine fin s' acc c as he (fun b o b1 b2 b3 b4 h => old b o b1 b2 b3 b4 (lt b o h) (Heap.get?_push_of_some _ h)) h3 ha hn ?_
  have sz : (s.heap.push { cls := .type "list", data := .seq #[] }).objs.size = s.heap.objs.size + 1 := Heap.size_push _ _
  exact sz ▸ zo
end
end Rs
/-! many new objects laid at once -/
open PySem PySem.Spec PyProof.Rows L2
namespace Rs
/-- a heap's first n objects -/
def cutH (h : Heap) (n : Nat) : Heap := { h with objs := h.objs.extract 0 n }
theorem cutH_at {h : Heap} {n : Nat} {b : Nat} (lt : b < n) : (cutH h n).objs[b]? = h.objs[b]? := by
  unfold cutH
  dsimp only
  rw [Array.getElem?_extract]
  split
  · rw [Nat.zero_add]
  · rw [Array.getElem?_eq_none (by omega)]
theorem cutH_get {h : Heap} {n : Nat} {b : Addr} (lt : b < n) : (cutH h n).get? b = h.get? b := by
  unfold Heap.get?
  rw [cutH_at lt]
theorem cutH_size {h : Heap} {n : Nat} (le : n ≤ h.objs.size) : (cutH h n).objs.size = n := by
  unfold cutH
  simp
  omega
theorem cutH_lt {h : Heap} {n : Nat} {b : Addr} {u : Obj} (le : n ≤ h.objs.size) (e : (cutH h n).get? b = some u) : b < n := by
  have := Heap.lt_size e
  rw [cutH_size le] at this
  exact this
theorem lay {X : Cx} {pins : List (Addr × Obj)} {σ : L2.St} {h' : Heap} {g : Array GenState} {dr : Drawn} {tk : Nat} {os : OsState} : ∀ (ts : List (Addr × HO)) (H : Hp) (n : Nat), Inv X pins σ H { heap := cutH h' n, gens := g, drawn := dr, toks := tk, os := os } → n ≤ h'.objs.size →
    (∀ p ∈ ts, n ≤ p.1 ∧ p.1 < h'.objs.size) → ts.Pairwise (fun p q => p.1 < q.1) → (∀ p ∈ ts, ∀ H h, h.get? p.1 = h'.get? p.1 → ObjOk X.prog X.w H h p.1 p.2) →
    Inv X pins σ (ts.foldl (fun H p => upd H p.1 p.2) H) { heap := h', gens := g, drawn := dr, toks := tk, os := os }
  | [], H, n, I, le, _, _, _ => I.kept (t' := tk) fun b u e => by
    have lt := cutH_lt le e
    rw [cutH_get lt] at e
    exact e
  | p :: ts, H, n, I, le, hp, rise, ok => by
    have p0 := hp p (List.mem_cons_self ..)
    have pn : p.1 + 1 ≤ h'.objs.size := p0.2
    have rr := List.pairwise_cons.mp rise
    refine lay ts (upd H p.1 p.2) (p.1 + 1) (I.laid (h' := cutH h' (p.1 + 1)) (t' := tk) (fun b u e => ?_) ?_ (ok p (List.mem_cons_self ..) _ _ (cutH_get (Nat.lt_succ_self _)))) pn (fun q hq => ⟨rr.1 q hq, (hp q (List.mem_cons_of_mem _ hq)).2⟩) rr.2 fun q hq => ok q (List.mem_cons_of_mem _ hq)
    · have lt := cutH_lt le e
      rw [cutH_get lt] at e
      rw [cutH_get (show b < p.1 + 1 from Nat.lt_succ_of_lt (Nat.lt_of_lt_of_le lt p0.1))]
      exact e
    · show (cutH h' n).objs.size ≤ p.1
      rw [cutH_size le]
      exact p0.1
theorem laid_many {X : Cx} {pins : List (Addr × Obj)} {σ : L2.St} {H : Hp} {s : Shared} {h' : Heap} {tk : Nat} {ts : List (Addr × HO)} (I : Inv X pins σ H s) (k : ∀ b u, s.heap.get? b = some u → h'.get? b = some u) (sz : s.heap.objs.size ≤ h'.objs.size)
    (hp : ∀ p ∈ ts, s.heap.objs.size ≤ p.1 ∧ p.1 < h'.objs.size) (rise : ts.Pairwise (fun p q => p.1 < q.1)) (ok : ∀ p ∈ ts, ∀ H h, h.get? p.1 = h'.get? p.1 → ObjOk X.prog X.w H h p.1 p.2) :
    Inv X pins σ (ts.foldl (fun H p => upd H p.1 p.2) H) { heap := h', gens := s.gens, drawn := s.drawn, toks := tk, os := s.os } :=
  lay ts H s.heap.objs.size (I.kept (h' := cutH h' s.heap.objs.size) (t' := tk) fun b u e => by
    rw [cutH_get (Heap.lt_size e)]
    exact k b u e) sz hp rise ok
theorem laid_at {ts : List (Addr × HO)} : ∀ {H : Hp} {a : Addr}, (∀ p ∈ ts, p.1 ≠ a) → ts.foldl (fun H p => upd H p.1 p.2) H a = H a := by
  induction ts with
  | nil => exact fun _ => rfl
  | cons p ts ih =>
    intro H a h
    rw [List.foldl_cons, ih fun q hq => h q (List.mem_cons_of_mem _ hq)]
    exact upd_ne (h p (List.mem_cons_self ..)).symm
theorem laid_in {ts : List (Addr × HO)} : ∀ {H : Hp} {p : Addr × HO}, ts.Pairwise (fun p q => p.1 < q.1) → p ∈ ts → ts.foldl (fun H p => upd H p.1 p.2) H p.1 = some p.2 := by
  induction ts with
  | nil => exact fun _ h => nomatch h
  | cons q ts ih =>
    intro H p r h
    have rr := List.pairwise_cons.mp r
    rw [List.foldl_cons]
    rcases List.mem_cons.mp h with rfl | h
    · rw [laid_at fun q hq => Nat.ne_of_gt (rr.1 q hq)]
      exact upd_same
    · exact ih rr.2 h
end Rs
/-! the rule of list(zip(a, b)) -/
open PySem PySem.Spec PyProof.Rows L2
namespace Rs
def tListZip (ta : TA) : TE := fun σ H Q => ta σ H fun vs H1 => ∃ (a b : Addr) (xs ys : List V), vs = [.ref a, .ref b] ∧ H1 a = some (.lst xs) ∧ H1 b = some (.lst ys) ∧ xs.length = ys.length ∧ 0 < xs.length ∧
  ∀ (H' : Hp) (L : Addr) (ts : List Addr), Same H1 H' → H1 L = none → H' L = some (.lst (ts.map V.ref)) → ts.length = xs.length →
    (∀ (j : Nat) (t : Addr), ts[j]? = some t → H1 t = none ∧ ∃ x y, xs[j]? = some x ∧ ys[j]? = some y ∧ H' t = some (.tup [x, y])) → Q (.ref L) H'
theorem zip_pair {α β : Type} {as : List α} {bs : List β} {p : α × β} (h : p ∈ as.zip bs) : ∃ j : Nat, as[j]? = some p.1 ∧ bs[j]? = some p.2 := by
  obtain ⟨j, hj⟩ := List.getElem?_of_mem h
  rw [List.getElem?_zip_eq_some] at hj
  exact ⟨j, hj.1, hj.2⟩
theorem vals_refs : ∀ as : List Addr, Vals (as.map V.ref) (as.map Value.ref)
  | [] => .nil
  | _ :: as => .cons rfl (vals_refs as)
theorem lay_zip {X : Cx} {pins : List (Addr × Obj)} {σ : L2.St} {H : Hp} {s s' : Shared} {L : Addr} {acc : Array Value} {c : Nat} {as : List Addr} {xs ys : List V} {us vs : List Value} (I : Inv X pins σ H s) (he : s'.gens = s.gens ∧ s'.drawn = s.drawn ∧ s'.os = s.os)
    (k : ∀ b u, s.heap.get? b = some u → s'.heap.get? b = some u) (hL : s.heap.objs.size ≤ L) (gL : s'.heap.get? L = some { cls := .type "list", data := .seq acc c }) (ea : acc.toList = as.map Value.ref) (el : as.length = us.length)
    (zo : ZOut s'.heap (L + 1) us.toArray vs.toArray as) (rx : Vals xs us) (ry : Vals ys vs) (l1 : us.length ≤ sizeLine) (l2 : us.length = vs.length) :
    ∃ H', Inv X pins σ H' s' ∧ Same H H' ∧ H L = none ∧ H' L = some (.lst (as.map V.ref)) ∧ ∀ (j : Nat) (t : Addr), as[j]? = some t → H t = none ∧ ∃ x y, xs[j]? = some x ∧ ys[j]? = some y ∧ H' t = some (.tup [x, y]) := by
  have lx := rx.length
  have ly := ry.length
  have szL := Heap.lt_size gL
  have sa : ∀ a ∈ as, L < a := fun a ha => zo.above a ha
  have sb : ∀ a ∈ as, a < s'.heap.objs.size := fun a ha => by
    obtain ⟨j, hj⟩ := List.getElem?_of_mem ha
    obtain ⟨_, _, _, _, e⟩ := zo.pairs j a hj
    exact Heap.lt_size e
  have fresh : ∀ b, s.heap.objs.size ≤ b → H b = none := fun b hb => I.hok.fresh hb
  have pl : (List.zipWith (fun x y => HO.tup [x, y]) xs ys).length = as.length := by
    rw [List.length_zipWith]
    omega
  have mf : (as.zip (List.zipWith (fun x y => HO.tup [x, y]) xs ys)).map Prod.fst = as := List.map_fst_zip (by omega)
  have rise : ((L, HO.lst (as.map V.ref)) :: as.zip (List.zipWith (fun x y => HO.tup [x, y]) xs ys)).Pairwise (fun p q => p.1 < q.1) := by
    refine List.pairwise_cons.mpr ⟨fun q hq => sa _ ?_, ?_⟩
    · rw [← mf]
      exact List.mem_map_of_mem hq
    · have := zo.rise
      rw [← mf, List.pairwise_map] at this
      exact this
  have J := laid_many (h' := s'.heap) (tk := s'.toks) (ts := (L, HO.lst (as.map V.ref)) :: as.zip (List.zipWith (fun x y => HO.tup [x, y]) xs ys)) I k (Nat.le_of_lt (Nat.lt_of_le_of_lt hL szL)) (fun p hp => ?_) rise (fun p hp H h e => ?_)
  · refine ⟨List.foldl (fun (H : Hp) (p : Addr × HO) => upd H p.1 p.2) H ((L, HO.lst (as.map V.ref)) :: as.zip (List.zipWith (fun x y => HO.tup [x, y]) xs ys)), ?_, ?_, fresh L hL, laid_in rise (List.mem_cons_self ..), fun j t ht => ?_⟩
    · obtain ⟨e1, e2, e3⟩ := he
      rw [← e1, ← e2, ← e3] at J
      exact J
    · intro b o hb
      rw [laid_at]
      · exact hb
      · intro p hp c
        have : H b = none := fresh b ?_
        · rw [this] at hb; cases hb
        · subst c
          rcases List.mem_cons.mp hp with rfl | hp
          · exact hL
          · obtain ⟨j, hj, _⟩ := zip_pair hp
            exact Nat.le_of_lt (Nat.lt_of_le_of_lt hL (sa _ (List.mem_of_getElem? hj)))
    · have lt : j < as.length := (List.getElem?_eq_some_iff.mp ht).1
      have ex : xs[j]? = some xs[j] := List.getElem?_eq_getElem (by omega)
      have ey : ys[j]? = some ys[j] := List.getElem?_eq_getElem (by omega)
      refine ⟨fresh t (Nat.le_of_lt (Nat.lt_of_le_of_lt hL (sa _ (List.mem_of_getElem? ht)))), _, _, ex, ey, ?_⟩
      refine laid_in (p := (t, HO.tup [xs[j], ys[j]])) rise (List.mem_cons_of_mem _ (List.mem_of_getElem? (i := j) ?_))
      rw [List.getElem?_zip_eq_some]
      refine ⟨ht, ?_⟩
      rw [List.getElem?_zipWith, ex, ey]
  · rcases List.mem_cons.mp hp with rfl | hp
    · exact ⟨hL, szL⟩
    · obtain ⟨j, hj, _⟩ := zip_pair hp
      have := List.mem_of_getElem? hj
      exact ⟨Nat.le_of_lt (Nat.lt_of_le_of_lt hL (sa _ this)), sb _ this⟩
  · rcases List.mem_cons.mp hp with rfl | hp
    · refine ⟨by rw [List.length_map]; omega, as.map Value.ref, c, vals_refs as, ?_⟩
      rw [e]
      show s'.heap.get? L = _
      rw [gL, ← ea]
    · obtain ⟨j, hj, h2⟩ := zip_pair hp
      obtain ⟨u, v, eu, ev, et⟩ := zo.pairs j p.1 hj
      have lt : j < as.length := (List.getElem?_eq_some_iff.mp hj).1
      have ex : xs[j]? = some xs[j] := List.getElem?_eq_getElem (by omega)
      have ey : ys[j]? = some ys[j] := List.getElem?_eq_getElem (by omega)
      rw [List.getElem?_zipWith, ex, ey] at h2
      injection h2 with h2
      rw [← h2]
      obtain ⟨u', hu, ru⟩ := rx.get ex
      obtain ⟨v', hv, rv⟩ := ry.get ey
      rw [List.getElem?_toArray] at eu ev
      rw [hu] at eu
      rw [hv] at ev
      injection eu with eu
      injection ev with ev
      subst eu
      subst ev
      exact ⟨by show 2 ≤ sizeLine; decide, [u', v'], .cons ru (.cons rv .nil), ⟨_, e.trans et, rfl, _, rfl⟩⟩
theorem apart {n a b : Nat} (ha : a < n) (hb : b < n) : ZipApart (n + 4) (n + 2) (n + 3) n (n + 1) a b := by
  constructor <;> (intro e; have e' : (_ : Nat) = _ := e; omega)
theorem ne4 {n b : Nat} (h : b < n) : b ≠ n + 4 ∧ b ≠ n + 3 ∧ b ≠ n ∧ b ≠ n + 1 := by omega
theorem pe_listZip {X : Cx} {e e2 : Expr} {ta : TA} {p p2 zpos pos : Pos} (hc : X.calm = true) (hg : Gl X "list") (hm : X.mg "list" = none) (hz : Gl X "zip") (hmz : X.mg "zip" = none) (ha : PA X [e, e2] ta)
    (hs : starEach [e, e2] X.env = (false, eval e X.env) :: starEach [e2] X.env := by rfl) (hs2 : ((backTo zpos (starEach [e2] X.env)).any fun x => x.1) = false := by rfl)
    (hs3 : starEach [.Call (.Name "zip" p2) [e, e2] [] zpos] X.env = (false, eval (.Call (.Name "zip" p2) [e, e2] [] zpos) X.env) :: starEach [] X.env := by rfl) :
    PE X (.Call (.Name "list" p) [.Call (.Name "zip" p2) [e, e2] [] zpos] [] pos) (tListZip ta) := by
  refine ⟨fun pins s σ H Q I hyp => Call_ (ld_blt I hg hm boot_list (callWith_type1 (spliced_more (Call_ (ld_blt I hz hmz boot_zip (callWith_type1 (thn (ha.run zpos pins s σ H _ I hyp) fun us s1 res => ?_) hs hs2))) hs3) hs3 rfl))⟩
  obtain ⟨vs, H1, I1, r1, a, b, xs, ys, rfl, hA, hB, hl, n0, q⟩ := res
  cases r1 with
  | cons r rr =>
    cases rr with
    | cons r2 rr =>
      cases rr
      cases r
      cases r2
      obtain ⟨us, ru, pa, la⟩ := I1.list (SqL.of hA)
      obtain ⟨vs, rv, pb, lb⟩ := I1.list (SqL.of hB)
      have lu := ru.length
      have lv := rv.length
      refine call_zip_2 pa.isList pb.isList (fun h' z ti to j1 j2 sz kp => ?_)
      have la' : a < s1.heap.objs.size := by
        obtain ⟨o, e, _⟩ := pa.isList
        exact Heap.lt_size e
      have lb' : b < s1.heap.objs.size := by
        obtain ⟨o, e, _⟩ := pb.isList
        exact Heap.lt_size e
      have kl : ∀ {l : Addr} {ws : Array Value}, s1.heap.IsList l ws → h'.IsList l ws := fun q => by
        obtain ⟨o, e, r⟩ := q
        exact ⟨o, kp _ _ e, r⟩
      have es : us.toArray.size = vs.toArray.size := by
        show us.length = vs.length
        omega
      refine spliced_none (call_list_zip (xs := us.toArray) (ys := vs.toArray) (I1.ok.hd hc) (apart la' lb') es (show 0 < us.length by omega) (show us.length ≤ sizeLine by omega) ⟨z, ti, to, j1, j2, kl pa.isList, kl pb.isList⟩ (fun s' acc c as he old hL hacc hn zo => ?_))
      have sz' : h'.objs.size = s1.heap.objs.size + 5 := sz
      obtain ⟨H', J, sm, nL, hH, pr⟩ := lay_zip (L := h'.objs.size) (us := us) (vs := vs) I1 he (fun b' u e' => by
        have lt := Heap.lt_size e'
        exact old b' u (ne4 lt).1 (ne4 lt).2.1 (ne4 lt).2.2.1 (ne4 lt).2.2.2 (kp b' u e')) (by rw [sz']; omega) hL hacc hn zo ru rv (show us.length ≤ sizeLine by omega) (show us.length = vs.length by omega)
      exact ⟨.ref h'.objs.size, H', J, rfl, q H' h'.objs.size as sm nL hH (hn.trans (show us.length = xs.length by omega)) pr⟩
end Rs
/-! math.lcm; v in a tuple of data. -/
namespace Rs
open PySem PySem.Spec PyProof.Rows L2
section
variable {X : Cx}
def rLcm : List V → Hp → VK → Prop := fun vs H Q => ∃ a b : Int, vs = [.int a, .int b] ∧ a.natAbs < 2 ^ 64 ∧ b.natAbs < 2 ^ 64 ∧ Q (.int ((Nat.lcm a.natAbs b.natAbs : Nat) : Int)) H
theorem cr_lcm : CallR X (.builtin "math.lcm") rLcm := by
  intro pins s σ H vs us Q I r h
  obtain ⟨a, b, rfl, ha, hb, q⟩ := h
  obtain ⟨t, u, rfl⟩ := Vals.int2 r
  exact PySem.W.mc_lcm ha hb fun _ => ⟨.int _, H, I.tok _, ⟨_, rfl⟩, q⟩
def rInTD (K : PySem.W.Frag) (neg : Bool) : R2 := fun x y H Q => ∃ d ds, Dp K H x d ∧ Dp K H y (.tuple ds) ∧ SeqAt.shaped d = true ∧ SeqAt.shaped (.tuple ds) = true ∧ Q (.bl (if neg then !(ds.any fun z => PyData.eqv z d) else ds.any fun z => PyData.eqv z d)) H
theorem op_inTD {K : PySem.W.Frag} (e : X.K = K) (hu : X.A.units + 65 < cLine) : OpR X (compareOp .In) (rInTD K false) := by
  subst e
  intro pins s σ H x y v u Q I rx ry h
  obtain ⟨d, ds, hd, he, sd, se, q⟩ := h
  obtain ⟨as, r1⟩ := Dp.reads I d x v hd rx
  obtain ⟨bs, r2⟩ := Dp.reads I (.tuple ds) y u he ry
  exact SeqAt.in_tuple_reads r2 r1 (SeqAt.canLay_of_shaped se) (SeqAt.canLay_of_shaped sd) (PyProof.Rows.room_in_shaped sd hu) ⟨.bl _, H, I, rfl, q⟩
end
/-- [e for x in l] over a list of any things, with a reading of e by its place -/
theorem lmapI {K : PySem.W.Frag} {L : Addr} {xs : List V} {te el : TE} {sl : Nat} {σ : L2.St} {H : Hp} {Q : VK} (f : Nat → V) (hte : ∀ R : VK, R (.ref L) H → te σ H R) (hL : H L = some (.lst xs)) (ln : xs.length ≤ 3000)
    (hel : ∀ (j : Nat) (x : V), xs[j]? = some x → ∀ (Hc : Hp) (R : VK), Same H Hc → (∀ Hd, Same Hc Hd → R (f j) Hd) → el ((wipe σ [sl]).set sl (some x)) Hc R)
    (k : ∀ D H', H D = none → Same H H' → H' D = some (.lst ((List.range xs.length).map f)) → Q (.ref D) H') : tLc (iList K te) (gName sl) tYes el [sl] σ H Q := by
  refine hte _ ⟨L, rfl, ⟨_, SqL.of hL⟩, fun D hD => lc_it walk_list (fun i Hc => Hc D = some (.lst ((List.range i).map f)) ∧ Same H Hc) ⟨upd_same, same_new hD⟩ (fun i Hc _ hR => hR.2.seq (SqL.of hL)) (fun j x Hc H' hj hR hy => ?_) (fun Hc hR => k D Hc hD hR.2 hR.1)⟩
  obtain ⟨rfl, hx⟩ := hy
  obtain ⟨hDc, sc⟩ := hR
  refine ⟨by simp [wipe, List.set_set], ?_⟩
  dsimp only [tYes]
  rw [if_pos rfl]
  have lt : j < xs.length := (List.getElem?_eq_some_iff.mp hx).1
  refine hel j x hx _ _ sc fun Hd sd => ?_
  refine ⟨_, sd _ _ hDc, ?_, ?_, same_lst (sc.trans sd) hD⟩
  · rw [List.length_map, List.length_range]
    exact szL2 (by omega)
  · rw [upd_same, List.range_succ, List.map_append]
    rfl
theorem val_go {te : TE} {v : V} {σ : L2.St} {H : Hp} {Q : VK} (h : ∀ R : VK, R v H → te σ H R) (k : Q v H) : te σ H Q := h Q k
end Rs
/-! str(o) by an own __str__; texts of ints separated by blanks, and what such a text tells. -/
namespace Rs
open PySem PySem.Spec PyProof.Rows L2
section
variable {X : Cx} {CX : CXT} {C g : Addr} {n : Nat} {sp : Sp} {E : XK}
def rStrO (C : Addr) (sp : Sp) (E : XK) : List V → Hp → VK → Prop := fun xs H Q => ∃ a dx fs, xs = [.ref a] ∧ H a = some (.ins C dx fs) ∧ sp [.ref a] H (fun z H' => ∃ y, z = .str y ∧ Q (.str y) H') E
theorem call_strO (M : Meth X.K C "__str__" g) (F : FnR X.prog X.w X.K X.mg X.base CX n g sp) (hr : Room (n + 2) X.A) (hx : Passes CX X E) : CallR X (.type "str") (rStrO C sp E) := by
  intro pins s σ H xs us Q I r h
  obtain ⟨a, dx, fs, rfl, ha, q⟩ := h
  cases r with
  | cons r1 rr =>
    cases rr
    cases (show _ = Value.ref a from r1)
    obtain ⟨ox, od, J⟩ := ins_at I ha
    have hr1 : Room (n + 1) X.A.in1 := Room.in1 hr
    have hr2 : Room n X.A.in1.in1 := Room.in1 hr1
    refine PySem.W.kso_call (by have := hr2.un; omega) I.kIn J M.at_ M.fn ?_
    refine wpAny_mono (wpAny_call (SlX.run_at (us := [.ref a]) (ws := [.ref a]) F hr2 I.env0.in1.in1 hx I (.cons rfl .nil) q)) (fun w s' z => ?_) fun _ _ x => x
    obtain ⟨z', H', I', rz, y, ez, qz⟩ := z
    subst ez
    obtain ⟨t, rfl⟩ := rz
    exact ⟨.str y, H', I', ⟨t, rfl⟩, qz⟩
end
/-! ### texts -/
def nS (n : Int) : Str := Str.ofString (toString n)
def blank : Str := Str.ofString " "
def spaced (ns : List Int) : Str := Txt.join blank (ns.map nS)
theorem nS_free (n : Int) : 32 ∉ TL.tl (nS n) := fun h => (intText_free_32 n).mp h
theorem nS_len {n : Int} (h0 : 0 ≤ n) (h1 : n < 10 ^ 9) : (nS n).length ≤ 10 := by
  have e := PySem.int_text_length_le10 (a := n) (k := 9) (by decide) (by omega)
  unfold nS
  rw [PySem.ofString_length]
  omega
theorem nS_num {n : Int} (h0 : 0 ≤ n) (h1 : n < 10 ^ 9) : PySem.intText? (nS n) = some n := PySem.W.KIN.num_reads h0 (by omega)
theorem nS_inj {n m : Int} (h0 : 0 ≤ n) (h1 : n < 10 ^ 9) (g0 : 0 ≤ m) (g1 : m < 10 ^ 9) (e : nS n = nS m) : n = m := by
  have a := nS_num h0 h1
  rw [e, nS_num g0 g1] at a
  injection a with a
  exact a.symm
theorem nS_map_inj : ∀ {ns ms : List Int}, (∀ n ∈ ns, 0 ≤ n ∧ n < 10 ^ 9) → (∀ n ∈ ms, 0 ≤ n ∧ n < 10 ^ 9) → ns.map nS = ms.map nS → ns = ms
  | [], [], _, _, _ => rfl
  | [], _ :: _, _, _, h => by simp at h
  | _ :: _, [], _, _, h => by simp at h
  | n :: ns, m :: ms, hn, hm, h => by
    rw [List.map_cons, List.map_cons] at h
    injection h with h1 h2
    have a := hn n List.mem_cons_self
    have b := hm m List.mem_cons_self
    rw [nS_inj a.1 a.2 b.1 b.2 h1, nS_map_inj (fun x hx => hn x (List.mem_cons_of_mem _ hx)) (fun x hx => hm x (List.mem_cons_of_mem _ hx)) h2]
theorem nS_not {n : Int} {w : Str} (h0 : 0 ≤ n) (h1 : n < 10 ^ 9) (hw : PySem.intText? w = none) : nS n ≠ w := fun e => by
  have a := nS_num h0 h1
  rw [e, hw] at a
  cases a
theorem join_append {y : Str} : ∀ {a b : List Str}, a ≠ [] → b ≠ [] → Str.join y (a ++ b) = Str.join y a ++ (y ++ Str.join y b)
  | [], _, h, _ => absurd rfl h
  | [x], [], _, h => absurd rfl h
  | [x], z :: b, _, _ => by
    show x ++ y ++ Str.join y (z :: b) = x ++ (y ++ Str.join y (z :: b))
    rw [Str.append_assoc]
  | x :: z :: a, b, _, hb => by
    show x ++ y ++ Str.join y (z :: a ++ b) = x ++ y ++ Str.join y (z :: a) ++ (y ++ Str.join y b)
    rw [join_append (by simp) hb, Str.append_assoc (x ++ y)]
def front (few : List Int) : Str := if few = [] then Str.ofString "-" else spaced few
def calText (few : List Int) (e p : Int) (rests : List Int) : Str :=
  if rests = [] then front few else front few ++ (Str.ofString " from " ++ (nS e ++ (Str.ofString " of " ++ (nS p ++ (Str.ofString ": " ++ spaced rests)))))
def frontW (few : List Int) : List Str := if few = [] then [Str.ofString "-"] else few.map nS
def tailW (e p : Int) (rests : List Int) : List Str := if rests = [] then [] else Str.ofString "from" :: nS e :: Str.ofString "of" :: (nS p ++ Str.ofString ":") :: rests.map nS
theorem frontW_ne {few : List Int} : frontW few ≠ [] := by
  unfold frontW
  split
  · simp
  · rename_i h
    simpa using h
theorem front_join {few : List Int} : front few = Str.join blank (frontW few) := by
  unfold front frontW
  split
  · rfl
  · exact TL.join_eq _ _
theorem calText_join {few rests : List Int} {e p : Int} : calText few e p rests = Str.join blank (frontW few ++ tailW e p rests) := by
  unfold calText tailW
  split
  · rw [List.append_nil, front_join]
  · rename_i h
    rw [join_append frontW_ne (by simp), ← front_join]
    congr 1
    have e1 : Str.ofString " from " = blank ++ (Str.ofString "from" ++ blank) := by decide
    have e2 : Str.ofString " of " = blank ++ (Str.ofString "of" ++ blank) := by decide
    have e3 : Str.ofString ": " = Str.ofString ":" ++ blank := by decide
    obtain ⟨r, t, rfl⟩ := List.exists_cons_of_ne_nil h
    rw [e1, e2, e3]
    have e4 : spaced (r :: t) = Str.join blank (nS r :: t.map nS) := TL.join_eq _ _
    rw [e4]
    show _ = blank ++ (Str.ofString "from" ++ blank ++ (nS e ++ blank ++ (Str.ofString "of" ++ blank ++ ((nS p ++ Str.ofString ":") ++ blank ++ Str.join blank (nS r :: t.map nS)))))
    simp only [Str.append_assoc]
theorem words_split {w : Str} : ∀ {F G X Y : List Str}, (∀ a ∈ F, a ≠ w) → (∀ a ∈ G, a ≠ w) → (X = [] ∨ ∃ t, X = w :: t) → (Y = [] ∨ ∃ t, Y = w :: t) → F ++ X = G ++ Y → F = G ∧ X = Y
  | [], [], _, _, _, _, _, _, e => ⟨rfl, e⟩
  | [], g :: G, X, Y, _, hG, hX, _, e => by
    rcases hX with rfl | ⟨t, rfl⟩
    · simp at e
    · simp only [List.nil_append, List.cons_append] at e
      injection e with e1 _
      exact absurd e1.symm (hG g List.mem_cons_self)
  | f :: F, [], X, Y, hF, _, _, hY, e => by
    rcases hY with rfl | ⟨t, rfl⟩
    · simp at e
    · simp only [List.nil_append, List.cons_append] at e
      injection e with e1 _
      exact absurd e1 (hF f List.mem_cons_self)
  | f :: F, g :: G, X, Y, hF, hG, hX, hY, e => by
    simp only [List.cons_append] at e
    injection e with e1 e2
    obtain ⟨a, b⟩ := words_split (fun x hx => hF x (List.mem_cons_of_mem _ hx)) (fun x hx => hG x (List.mem_cons_of_mem _ hx)) hX hY e2
    rw [e1, a]
    exact ⟨rfl, b⟩
def Small (ns : List Int) : Prop := ∀ n ∈ ns, 0 ≤ n ∧ n < 10 ^ 9
theorem front_free {few : List Int} : ∀ a ∈ frontW few, 32 ∉ TL.tl a := by
  unfold frontW
  split
  · intro a ha
    rw [List.mem_singleton] at ha
    subst ha
    decide
  · intro a ha
    obtain ⟨n, _, rfl⟩ := List.mem_map.mp ha
    exact nS_free n
theorem tail_free {e p : Int} {rests : List Int} : ∀ a ∈ tailW e p rests, 32 ∉ TL.tl a := by
  unfold tailW
  split
  · intro a ha
    cases ha
  · intro a ha
    rcases List.mem_cons.mp ha with rfl | ha
    · decide
    rcases List.mem_cons.mp ha with rfl | ha
    · exact nS_free e
    rcases List.mem_cons.mp ha with rfl | ha
    · decide
    rcases List.mem_cons.mp ha with rfl | ha
    · rw [TL.tl_append]
      intro h
      rcases List.mem_append.mp h with h | h
      · exact nS_free p h
      · revert h
        decide
    · obtain ⟨n, _, rfl⟩ := List.mem_map.mp ha
      exact nS_free n
theorem front_not {few : List Int} (h : Small few) : ∀ a ∈ frontW few, a ≠ Str.ofString "from" := by
  unfold frontW
  split
  · intro a ha
    rw [List.mem_singleton] at ha
    subst ha
    decide
  · intro a ha
    obtain ⟨n, hn, rfl⟩ := List.mem_map.mp ha
    exact nS_not (h n hn).1 (h n hn).2 (by decide +kernel)
theorem tail_head {e p : Int} {rests : List Int} : tailW e p rests = [] ∨ ∃ t, tailW e p rests = Str.ofString "from" :: t := by
  unfold tailW
  split
  · exact .inl rfl
  · exact .inr ⟨_, rfl⟩
theorem front_inj {a b : List Int} (ha : Small a) (hb : Small b) (e : frontW a = frontW b) : a = b := by
  unfold frontW at e
  by_cases h1 : a = []
  · by_cases h2 : b = []
    · rw [h1, h2]
    · rw [if_pos h1, if_neg h2] at e
      obtain ⟨n, t, rfl⟩ := List.exists_cons_of_ne_nil h2
      rw [List.map_cons] at e
      injection e with e1 _
      exact absurd e1.symm (nS_not (hb n List.mem_cons_self).1 (hb n List.mem_cons_self).2 (by decide +kernel))
  · by_cases h2 : b = []
    · rw [if_pos h2, if_neg h1] at e
      obtain ⟨n, t, rfl⟩ := List.exists_cons_of_ne_nil h1
      rw [List.map_cons] at e
      injection e with e1 _
      exact absurd e1 (nS_not (ha n List.mem_cons_self).1 (ha n List.mem_cons_self).2 (by decide +kernel))
    · rw [if_neg h1, if_neg h2] at e
      exact nS_map_inj ha hb e
/-- what a calendar's text tells -/
theorem calText_inj {f1 f2 r1 r2 : List Int} {e1 e2 p1 p2 : Int} (hf1 : Small f1) (hf2 : Small f2) (hr1 : Small r1) (hr2 : Small r2) (he1 : 0 ≤ e1 ∧ e1 < 10 ^ 9) (he2 : 0 ≤ e2 ∧ e2 < 10 ^ 9) (hp1 : 0 ≤ p1 ∧ p1 < 10 ^ 9) (hp2 : 0 ≤ p2 ∧ p2 < 10 ^ 9)
    (h : calText f1 e1 p1 r1 = calText f2 e2 p2 r2) : f1 = f2 ∧ r1 = r2 ∧ (r1 ≠ [] → e1 = e2 ∧ p1 = p2) := by
  rw [calText_join, calText_join, ← TL.join_eq, ← TL.join_eq] at h
  have sp : ∀ {f r : List Int} {e p : Int}, Txt.split (Txt.join blank (frontW f ++ tailW e p r)) blank = frontW f ++ tailW e p r := fun {f r e p} =>
    TL.split_join (s := 32) (S := []) (by decide) (by decide +kernel) (fun z => frontW_ne (List.append_eq_nil_iff.mp z).1) fun a ha => by
      rcases List.mem_append.mp ha with ha | ha
      · exact front_free a ha
      · exact tail_free a ha
  have hw : Txt.split _ blank = Txt.split _ blank := congrArg (fun z => Txt.split z blank) h
  rw [sp, sp] at hw
  obtain ⟨a, b⟩ := words_split (front_not hf1) (front_not hf2) tail_head tail_head hw
  refine ⟨front_inj hf1 hf2 a, ?_⟩
  unfold tailW at b
  by_cases h1 : r1 = []
  · by_cases h2 : r2 = []
    · rw [h1, h2]
      exact ⟨rfl, fun z => absurd rfl z⟩
    · rw [if_pos h1, if_neg h2] at b
      cases b
  · by_cases h2 : r2 = []
    · rw [if_neg h1, if_pos h2] at b
      cases b
    · rw [if_neg h1, if_neg h2] at b
      injection b with _ b
      injection b with b1 b
      injection b with _ b
      injection b with b2 b
      have b3 : nS p1 = nS p2 := by
        have := congrArg TL.tl b2
        rw [TL.tl_append, TL.tl_append] at this
        exact TL.ext_tl (List.append_cancel_right this)
      exact ⟨nS_map_inj hr1 hr2 b, fun _ => ⟨nS_inj he1.1 he1.2 he2.1 he2.2 b1, nS_inj hp1.1 hp1.2 hp2.1 hp2.2 b3⟩⟩
theorem sum_len {ns : List Int} (h : Small ns) : ((ns.map nS).map (·.length)).sum ≤ 10 * ns.length := by
  induction ns with
  | nil => simp
  | cons n ns ih =>
    have a := nS_len (h n List.mem_cons_self).1 (h n List.mem_cons_self).2
    have b := ih fun x hx => h x (List.mem_cons_of_mem _ hx)
    simp only [List.map_cons, List.sum_cons, List.length_cons] at b ⊢
    omega
theorem spaced_len {ns : List Int} (h : Small ns) : (spaced ns).length ≤ 11 * ns.length := by
  unfold spaced
  rw [TL.join_eq]
  induction ns with
  | nil => exact Nat.le_refl _
  | cons n ns ih =>
    have a := nS_len (h n List.mem_cons_self).1 (h n List.mem_cons_self).2
    have b := ih fun x hx => h x (List.mem_cons_of_mem _ hx)
    cases ns with
    | nil =>
      show (nS n).length ≤ _
      simp only [List.length_cons, List.length_nil]
      omega
    | cons m ns =>
      show (nS n ++ blank ++ Str.join blank (nS m :: ns.map nS)).length ≤ _
      rw [Str.length_append, Str.length_append]
      have c : blank.length = 1 := by decide
      have d : (Str.join blank (nS m :: ns.map nS)).length ≤ 11 * (m :: ns).length := b
      simp only [List.length_cons] at d ⊢
      omega
/-- a value, with the heap only grown -/
theorem val_same {te : TE} {v : V} {σ : L2.St} {H : Hp} {Q : VK} (h : ∀ R : VK, (∀ H', Same H H' → R v H') → te σ H R) (k : ∀ H', Same H H' → Q v H') : te σ H Q := h Q k
/-- [e for n in t] over a tuple of ints -/
theorem lmapT {K : PySem.W.Frag} {a : Addr} {ns : List Int} {te el : TE} {sl : Nat} {σ : L2.St} {H : Hp} {Q : VK} (f : Int → V) (hte : ∀ R : VK, R (.ref a) H → te σ H R) (hS : SqT K H a (ns.map V.int)) (ln : ns.length ≤ 3000)
    (hel : ∀ n ∈ ns, ∀ (Hc : Hp) (R : VK), Same H Hc → R (f n) Hc → el ((wipe σ [sl]).set sl (some (.int n))) Hc R)
    (k : ∀ D H', H D = none → Same H H' → H' D = some (.lst (ns.map f)) → Q (.ref D) H') : tLc (iTup K te) (gName sl) tYes el [sl] σ H Q := by
  refine hte _ ⟨a, rfl, ⟨_, hS⟩, fun D hD => lc_it walk_tup (fun i Hc => Hc D = some (.lst ((ns.take i).map f)) ∧ Same H Hc) ⟨upd_same, same_new hD⟩ (fun i Hc _ hR => (Fz.of_same hR.2).sqT hS) (fun j x Hc H' hj hR hy => ?_) (fun Hc hR => ?_)⟩
  · obtain ⟨rfl, hx⟩ := hy
    obtain ⟨hDc, sc⟩ := hR
    rw [List.getElem?_map] at hx
    obtain ⟨n, hn, rfl⟩ := Option.map_eq_some_iff.mp hx
    refine ⟨by simp [wipe, List.set_set], ?_⟩
    dsimp only [tYes]
    rw [if_pos rfl]
    refine hel n (List.mem_of_getElem? hn) _ _ sc ⟨_, hDc, ?_, ?_, same_lst sc hD⟩
    · rw [List.length_map, List.length_take]
      exact szL2 (by omega)
    · rw [upd_same, take_snoc hn, List.map_append]
      rfl
  · rw [List.length_map, List.take_length] at hR
    exact k D Hc hD hR.2 hR.1
end Rs
/-! len(o) by an own __len__; o.m(e, ..) and o[i] within a try, what they let out is wished for at the caller's slots -/
namespace Rs
open PySem PySem.Spec PyProof.Rows L2
section
variable {X : Cx} {CX : CXT} {C g : Addr} {n : Nat} {sp : Sp} {E : XK}
def rLenO (C : Addr) (sp : Sp) (E : XK) : List V → Hp → VK → Prop := fun xs H Q => ∃ a dx fs, xs = [.ref a] ∧ H a = some (.ins C dx fs) ∧ sp [.ref a] H (fun z H' => ∃ i : Int, z = .int i ∧ 0 ≤ i ∧ i < 2 ^ 63 ∧ Q (.int i) H') E
theorem call_lenO (M : Meth X.K C "__len__" g) (F : FnR X.prog X.w X.K X.mg X.base CX n g sp) (hr : Room (n + 1) X.A) (hx : Passes CX X E) : CallR X (.builtin "len") (rLenO C sp E) := by
  intro pins s σ H xs us Q I r h
  obtain ⟨a, dx, fs, rfl, ha, q⟩ := h
  cases r with
  | cons r1 rr =>
    cases rr
    cases (show _ = Value.ref a from r1)
    obtain ⟨ox, od, J⟩ := ins_at I ha
    have hr1 : Room n X.A.in1 := Room.in1 hr
    obtain ⟨m, hF⟩ := I.fr
    refine PySem.W.len_K hF I.ok.mod.kin J M.at_ M.fn ?_
    refine wpAny_mono (wpAny_call (SlX.run_at (us := [.ref a]) (ws := [.ref a]) F hr1 I.env0.in1 hx I (.cons rfl .nil) q)) (fun w s' z => ?_) fun _ _ x => x
    obtain ⟨z', H', I', rz, i, ei, i0, i1, qz⟩ := z
    subst ei
    obtain ⟨t, rfl⟩ := rz
    exact ⟨⟨i0, i1⟩, .int i, H', I'.tok _, ⟨_, rfl⟩, qz⟩
end
section
variable {X : Cx} {CX : CXT} {C g : Addr} {n : Nat} {sp : Sp} {E : L2.St → XK} {a b : Expr} {ta tb : TE} {pos : Pos}
def tGetS (C : Addr) (sp : Sp) (E : L2.St → XK) (ta tb : TE) : TE := fun σ H Q => ta σ H fun x H1 => tb σ H1 fun y H2 => ∃ a dx fs, x = .ref a ∧ H2 a = some (.ins C dx fs) ∧ sp [.ref a, y] H2 Q (E σ)
theorem pe_ixOS (M : Meth X.K C "__getitem__" g) (hfn : PySem.W.fnIn X.K g = true) (F : FnR X.prog X.w X.K X.mg X.base CX n g sp) (hr : Room (n + 1) X.A) (hx : ∀ σ, PassesAt CX X σ (E σ)) (ha : PE X a ta) (hb : PE X b tb)
    (hsl : ∀ x i, subscripted b true (.ref x) i = runValue (.builtin "lifetime.subscript" ⟨[.ref x, i], []⟩) := by intro x i; with_unfolding_all rfl) : PE X (.Subscript a b pos) (tGetS C sp E ta tb) := by
  refine ⟨fun pins s σ H Q I h => ?_⟩
  refine Subscript_ (binT ha hb I h fun v u s2 x y H2 I2 rx ry q => ?_)
  obtain ⟨z, dx, fs, rfl, hz, q⟩ := q
  cases (show v = Value.ref z from rx)
  obtain ⟨ox, od, J⟩ := ins_at I2 hz
  obtain ⟨m, hF⟩ := I2.fr
  refine PySem.W.sub_K hF I2.ok.mod.kin J M.at_ hfn M.fn ?_ (hsl z u)
  have sb : Sub X n X.A.in1 := Sub.in1 ⟨hr, rfl⟩
  have e0 : Env0 X.prog X.w X.K X.mg X.base X.A.in1 X.stack s2 H2 := by
    have e := I2.env0
    exact ⟨by rw [sb.fr]; exact e.frames, e.mod, e.bs, e.bsz, e.funs, e.frf, e.hok, e.bare⟩
  refine wpAny_call (codeAny_mono (F X.A.in1 X.stack s2 H2 [.ref z, u] [.ref z, y] Q (E σ) sb.room e0 (.cons rfl (.cons ry .nil)) q) fun r s' hq => ?_)
  cases r with
  | error e => exact hx σ pins H2 s2 e s' I2 hq
  | ok fl =>
    cases fl with
    | ret u => exact I2.after hq
    | next => exact False.elim hq
    | brk => exact False.elim hq
    | cont => exact False.elim hq
end
section
variable {X : Cx} {CX : CXT} {k : Nat} {f C : Addr} {fd : FuncData} {ps : List Str} {sp : Sp} {E : L2.St → XK} {m : Str} {pos apos : Pos} {e o : Expr} {es : List Expr} {ta : TE} {t : TA}
def tMethS (C : Addr) (m : Str) (sp : Sp) (E : L2.St → XK) (ta : TE) (t : TA) : TE := fun σ H Q => ta σ H fun x H1 => ∃ a dx fs, x = .ref a ∧ H1 a = some (.ins C dx fs) ∧ fs.lookup m = none ∧ t σ H1 fun vs H2 => sp (x :: vs) H2 Q (E σ)
theorem pe_methT {pl : Sem Bool} (he : PE X o ta) (c : Cls X.K C) (hm : Meth X.K C m f) (F : FnOk X.prog X.w X.K X.mg X.base CX k f fd ps sp) (hr : Room k X.A) (hb : Binds X.K fd ps []) (hx : ∀ σ, PassesAt CX X σ (E σ)) (ha : PA X (e :: es) t)
    (hst : starEach (e :: es) X.env = (false, eval e X.env) :: starEach es X.env := by rfl) (hpl : (backTo pos (starEach es X.env)).any (·.1) = false := by rfl)
    (ht : eval (.Call (.Attribute o m apos) (e :: es) [] pos) X.env = (do
      let ov ← eval o X.env
      standAt apos.atName
      let (f, first) ← holding [ov] (getMethod ov m pl)
      callWith pos f first (backTo pos (starEach (e :: es) X.env)) (backToKw pos (keywordEach [] X.env))) := by rfl) : PE X (.Call (.Attribute o m apos) (e :: es) [] pos) (tMethS C m sp E ta t) := by
  refine ⟨fun pins s σ H Q I h => ?_⟩
  refine PySem.W.methodCall_KW (pl := pl) (thn (he.run pins s σ H _ I h) fun u s1 res => ?_) ht
  obtain ⟨x, H1, I1, rx, a, dx, fs, ex, ea, l, q⟩ := res
  subst ex
  cases (show u = Value.ref a from rx)
  refine getmeth_ok I1 ea c hm l ?_
  refine PySem.W.callWith_K (first := [.ref a]) (h₀ := X.base) I.ok.mod.kin hm.kp (thn (ha.run pos pins s1 σ H1 _ I1 q) fun us s2 res => ?_) hst hpl
  obtain ⟨vs, H2, I2, r, q2⟩ := res
  exact ⟨I2.kIn, run_fnS (us := .ref a :: us) (vs := .ref a :: vs) F hr hb (hx σ) I2 (.cons rfl r) q2⟩
end
end Rs
/-! comprehensions within comprehensions -/
namespace Rs
open PySem PySem.Spec PyProof.Rows L2
def relabelS (scope sc : Scope) : Scope :=
  { scope with names := scope.names.map fun (n, k) => if (k == .free && sc.kind == .function && sc.names.lookup n == some .cell) then (n, .cell) else (n, k) }
theorem relabel_eq (scope : Scope) (env : Env) : relabel scope env = relabelS scope env.scope := rfl
theorem pi_tupK {X : Cx} {K : PySem.W.Frag} {tg l : Expr} {tl : TE} (e : X.K = K) (hl : PE X l tl) : PI X tg l (iTup K tl) := by
  subst e
  exact pi_tup hl
theorem pi_listK {X : Cx} {K : PySem.W.Frag} {tg l : Expr} {tl : TE} (e : X.K = K) (hl : PE X l tl) : PI X tg l (iList K tl) := by
  subst e
  exact pi_list hl
/-- [n for n in range(hi) if t], where the test may make new objects -/
theorem lcondH {targ : TA} {tt : TT} {sl : Nat} {σ : L2.St} {H : Hp} {Q : VK} {hi : Int} (f : Int → Bool) (b3 : -1000 ≤ hi) (b4 : hi ≤ 3000) (harg : ∀ R : List V → Hp → Prop, R [.int hi] H → targ σ H R) (hl : sl < σ.length)
    (htt : ∀ n Hc (R : Bool → Hp → Prop), 0 ≤ n → n < hi → Same H Hc → (∀ Hd, Same Hc Hd → R (f n) Hd) → tt ((wipe σ [sl]).set sl (some (.int n))) Hc R)
    (k : ∀ D H', H D = none → Same H H' → H' D = some (.lst ((((List.range hi.toNat).map fun i : Nat => (i : Int)).filter f).map V.int)) → Q (.ref D) H') : tLc (iRng1 targ) (gName sl) tt (tVar sl) [sl] σ H Q := by
  refine harg _ ⟨hi, rfl, by omega, by omega, fun D hD => ?_⟩
  refine lc_range (lo := 0) (fun i Hc => Hc D = some (.lst ((((List.range i).map fun i : Nat => (i : Int)).filter f).map V.int)) ∧ Same H Hc) ⟨upd_same, same_new hD⟩ (fun i Hc hi' hP => ?_) (fun Hc hP => ?_)
  · obtain ⟨hDc, sc⟩ := hP
    rw [Int.zero_add]
    refine ⟨by simp [wipe, List.set_set], htt _ _ _ (by omega) (by omega) sc fun Hd sd => ?_⟩
    have z : ((List.range (i + 1)).map fun i : Nat => (i : Int)).filter f = ((List.range i).map fun i : Nat => (i : Int)).filter f ++ (if f (i : Int) = true then [(i : Int)] else []) := by
      rw [range_succ_map, List.filter_append, List.filter_cons, List.filter_nil]
    refine ifB (fun g => ?_) (fun g => ?_)
    · rw [if_pos g] at z
      refine ⟨.int (i : Nat), by simp [wipe, List.getElem?_set, hl], _, sd _ _ hDc, ?_, ?_, same_lst (sc.trans sd) hD⟩
      · rw [List.length_map]
        have := List.length_filter_le f ((List.range i).map fun i : Nat => (i : Int))
        rw [List.length_map, List.length_range] at this
        exact szL2 (by omega)
      · rw [upd_same, z, List.map_append]
        rfl
    · rw [if_neg (by rw [g]; exact Bool.false_ne_true), List.append_nil] at z
      rw [z]
      exact ⟨sd _ _ hDc, sc.trans sd⟩
  · exact k D Hc hD hP.2 hP.1
/-- [e for x in L if t], t never true -/
theorem lnone {K : PySem.W.Frag} {L : Addr} {xs : List V} {te el : TE} {tt : TT} {sl : Nat} {σ : L2.St} {H : Hp} {Q : VK} (hte : ∀ R : VK, (∀ H1, Same H H1 → H1 L = some (.lst xs) → R (.ref L) H1) → te σ H R)
    (htt : ∀ x ∈ xs, ∀ (Hc : Hp) (R : Bool → Hp → Prop), Same H Hc → (∀ Hd, Same Hc Hd → R false Hd) → tt ((wipe σ [sl]).set sl (some x)) Hc R)
    (k : ∀ D H', H D = none → Same H H' → H' D = some (.lst []) → Q (.ref D) H') : tLc (iList K te) (gName sl) tt el [sl] σ H Q := by
  refine hte _ fun H1 s1 hL => ⟨L, rfl, ⟨_, SqL.of hL⟩, fun D hD => lc_it walk_list (fun i Hc => Hc D = some (.lst []) ∧ Same H1 Hc) ⟨upd_same, same_new hD⟩ (fun i Hc _ hR => hR.2.seq (SqL.of hL)) (fun j x Hc H' hj hR hy => ?_) (fun Hc hR => ?_)⟩
  · obtain ⟨rfl, hx⟩ := hy
    obtain ⟨hDc, sc⟩ := hR
    exact ⟨by simp [wipe, List.set_set], htt x (List.mem_of_getElem? hx) _ _ (s1.trans sc) fun Hd sd => ifF rfl ⟨sd _ _ hDc, sc.trans sd⟩⟩
  · exact k D Hc (s1.free hD) (s1.trans hR.2) hR.1
/-- a statement that goes on in several ways, all of which hold C -/
theorem seq_k {t rest : TS} {D : Ends} {σ : L2.St} {H : Hp} (C : L2.St → Hp → Prop) (k : ∀ σ' H', C σ' H' → rest D σ' H') (h : ∀ R : L2.St → Hp → Prop, (∀ σ' H', C σ' H' → R σ' H') → t { D with nx := R } σ H) : tSeq t rest D σ H := h _ k
end Rs
namespace K01
open PySem PySem.Spec PyProof.Rows L2 Rs
local macro_rules | `(tactic| walk_at "om") => `(tactic| first | omega | (dsimp only; omega))
local macro_rules | `(tactic| walk_at "side") => `(tactic| first | omega | (dsimp only; omega) | decide | (unfold CMul; omega) | (unfold CDiv; omega) | (unfold CPow; omega) | exact wide_div (b := 64) (by omega) (by omega) (by decide) (by decide))
local macro_rules | `(tactic| walk_at "hp") => `(tactic| first | assumption | exact upd_same)
local macro_rules | `(tactic| walk_at "sq") => `(tactic| first | assumption | exact SqL.of (by assumption) | exact SqL.of upd_same)
local macro_rules | `(tactic| walk_at "st") => `(tactic| first
  | refine ⟨_, rfl, ?_⟩
  | (refine ⟨_, _, rfl, rfl, And.intro ?side ?_⟩; (case side => walk_at "side"))
  | refine ⟨_, _, rfl, rfl, ?_⟩
  | (refine' ⟨_, _, _, _, rfl, rfl, SqL.of ?hp, ?atx, ?_⟩; (case hp => walk_at "hp"); (case atx => exact rfl))
  | (refine' ⟨_, _, _, _, rfl, rfl, ?hp, ?atx, ?_⟩; (case hp => walk_at "hp"); (case atx => exact rfl))
  | (refine' ⟨_, _, rfl, Or.inl ?sq, ?_⟩; (case sq => walk_at "sq"))
  | refine Or.inl ⟨_, rfl, ?_⟩
  | refine Or.inr ⟨_, rfl, ?_⟩)
local macro_rules | `(tactic| walk_at "evd") => `(tactic| first
  | exact evd_int
  | exact evd_str
  | exact evd_non
  | exact evd_bl
  | exact evd_nil
  | (refine evd_cons ?_ (fun _ => ?_) <;> walk_at "evd")
  | (refine evd_tup ?_ (Nat.le_of_ble_eq_true rfl); walk_at "evd"))

def topS (i : Nat) : Stmt := PySem.Challenge.pw_ringsums_k01_errors_and_what_they_keep.main.body.getD i (.Pass ⟨0, 0, 0, 0⟩)
abbrev s_InvalidForm___init__ : Stmt := inClass (topS 2) 0
theorem sc_InvalidForm___init__ : FnScope ["self", "word"] ["self", "word"] (defScope s_InvalidForm___init__) := ⟨rfl, rfl, rfl, by decide +kernel, rfl, by decide +kernel, by decide +kernel⟩
abbrev s_InvalidLane___init__ : Stmt := inClass (topS 3) 0
theorem sc_InvalidLane___init__ : FnScope ["self", "word"] ["self", "word"] (defScope s_InvalidLane___init__) := ⟨rfl, rfl, rfl, by decide +kernel, rfl, by decide +kernel, by decide +kernel⟩
abbrev s_InvalidBlock___init__ : Stmt := inClass (topS 4) 0
theorem sc_InvalidBlock___init__ : FnScope ["self", "word"] ["self", "word"] (defScope s_InvalidBlock___init__) := ⟨rfl, rfl, rfl, by decide +kernel, rfl, by decide +kernel, by decide +kernel⟩
abbrev s_InvalidText___init__ : Stmt := inClass (topS 6) 0
theorem sc_InvalidText___init__ : FnScope ["self", "at"] ["self", "at"] (defScope s_InvalidText___init__) := ⟨rfl, rfl, rfl, by decide +kernel, rfl, by decide +kernel, by decide +kernel⟩
abbrev s_InvalidRows___init__ : Stmt := inClass (topS 7) 0
theorem sc_InvalidRows___init__ : FnScope ["self", "at"] ["self", "at"] (defScope s_InvalidRows___init__) := ⟨rfl, rfl, rfl, by decide +kernel, rfl, by decide +kernel, by decide +kernel⟩
abbrev s_InvalidSlip___init__ : Stmt := inClass (topS 8) 0
theorem sc_InvalidSlip___init__ : FnScope ["self", "word"] ["self", "word"] (defScope s_InvalidSlip___init__) := ⟨rfl, rfl, rfl, by decide +kernel, rfl, by decide +kernel, by decide +kernel⟩
abbrev s_InvalidCalendar___init__ : Stmt := inClass (topS 9) 0
theorem sc_InvalidCalendar___init__ : FnScope ["self", "word"] ["self", "word"] (defScope s_InvalidCalendar___init__) := ⟨rfl, rfl, rfl, by decide +kernel, rfl, by decide +kernel, by decide +kernel⟩
abbrev s_Refused___init__ : Stmt := inClass (topS 12) 0
theorem sc_Refused___init__ : FnScope ["self", "at"] ["self", "at"] (defScope s_Refused___init__) := ⟨rfl, rfl, rfl, by decide +kernel, rfl, by decide +kernel, by decide +kernel⟩
abbrev s_NoBlock___init__ : Stmt := inClass (topS 13) 0
theorem sc_NoBlock___init__ : FnScope ["self", "at"] ["self", "at"] (defScope s_NoBlock___init__) := ⟨rfl, rfl, rfl, by decide +kernel, rfl, by decide +kernel, by decide +kernel⟩
abbrev s__law_box : Stmt := topS 15
theorem sc__law_box : FnScope ["_law_script", "_law_k", "_law_cell", "_law_seed", "_law_wide"] ["_law_script", "_law_k"] (defScope s__law_box) := ⟨rfl, rfl, rfl, by decide +kernel, rfl, by decide +kernel, by decide +kernel⟩
abbrev s__law_take : Stmt := topS 16
theorem sc__law_take : FnScope ["_law_box_here", "_law_many", "_law_digit", "_law_near"] ["_law_box_here", "_law_many"] (defScope s__law_take) := ⟨rfl, rfl, rfl, by decide +kernel, rfl, by decide +kernel, by decide +kernel⟩
abbrev s__law_pick : Stmt := topS 17
theorem sc__law_pick : FnScope ["_law_box_here", "_law_some"] ["_law_box_here", "_law_some"] (defScope s__law_pick) := ⟨rfl, rfl, rfl, by decide +kernel, rfl, by decide +kernel, by decide +kernel⟩
abbrev s__law_any : Stmt := topS 18
theorem sc__law_any : FnScope ["_law_box_here", "_law_deep", "_law_form", "_law_some", "_law_k", "_law_words", "_law_plain"] ["_law_box_here", "_law_deep"] (defScope s__law_any) := ⟨rfl, rfl, rfl, by decide +kernel, rfl, by decide +kernel, by decide +kernel⟩
abbrev s__law_made : Stmt := topS 19
theorem sc__law_made : FnScope ["_law_at", "_law_value"] ["_law_at", "_law_value"] (defScope s__law_made) := ⟨rfl, rfl, rfl, by decide +kernel, rfl, by decide +kernel, by decide +kernel⟩
abbrev s__law_sorts : Stmt := topS 20
theorem sc__law_sorts : FnScope ["_law_e", "_law_found", "_law_at", "_law_is_so"] ["_law_e"] (defScope s__law_sorts) := ⟨rfl, rfl, rfl, by decide +kernel, rfl, by decide +kernel, by decide +kernel⟩
abbrev s__law_is_kept : Stmt := topS 21
theorem sc__law_is_kept : FnScope ["_law_e", "_law_at", "_law_value"] ["_law_e", "_law_at", "_law_value"] (defScope s__law_is_kept) := ⟨rfl, rfl, rfl, by decide +kernel, rfl, by decide +kernel, by decide +kernel⟩
abbrev s_law : Stmt := topS 22
theorem sc_law : FnScope ["_law_script", "_law_k", "_law_box_here", "_law_at", "_law_value", "_law_e", "_law_told"] ["_law_script"] (defScope s_law) := ⟨rfl, rfl, rfl, by decide +kernel, rfl, by decide +kernel, by decide +kernel⟩
/-- what the top has written -/
structure Txt (K : PySem.W.Frag) (mg : Str → Option Value) where
  c_RingError : Addr
  m_RingError : mg "RingError" = some (.ref c_RingError)
  c_InvalidForm : Addr
  m_InvalidForm : mg "InvalidForm" = some (.ref c_InvalidForm)
  a_InvalidForm___init__ : Addr
  d_InvalidForm___init__ : FuncData
  F_InvalidForm___init__ : Fun K "__init__" "InvalidForm.__init__" s_InvalidForm___init__ a_InvalidForm___init__ d_InvalidForm___init__
  b_InvalidForm___init__ : Binds K d_InvalidForm___init__ ["self", "word"] []
  k_InvalidForm___init__ : PySem.W.keepIn K (.ref a_InvalidForm___init__) = true
  x_InvalidForm : OexC K c_InvalidForm
  X_InvalidForm : ExX K c_InvalidForm
  f_InvalidForm : XfC K c_InvalidForm
  n_InvalidForm : PySem.W.findIn K (.ref c_InvalidForm) "word" = some none
  i_InvalidForm : PySem.W.findIn K (.ref c_InvalidForm) "__init__" = some (some (.ref a_InvalidForm___init__))
  t_InvalidForm : PySem.W.typeIn K (.ref a_InvalidForm___init__) = some (.type "function")
  e_InvalidForm : PySem.W.exmOne K (.ref c_InvalidForm) (.ref c_InvalidForm) = some true
  c_InvalidLane : Addr
  m_InvalidLane : mg "InvalidLane" = some (.ref c_InvalidLane)
  a_InvalidLane___init__ : Addr
  d_InvalidLane___init__ : FuncData
  F_InvalidLane___init__ : Fun K "__init__" "InvalidLane.__init__" s_InvalidLane___init__ a_InvalidLane___init__ d_InvalidLane___init__
  b_InvalidLane___init__ : Binds K d_InvalidLane___init__ ["self", "word"] []
  k_InvalidLane___init__ : PySem.W.keepIn K (.ref a_InvalidLane___init__) = true
  x_InvalidLane : OexC K c_InvalidLane
  X_InvalidLane : ExX K c_InvalidLane
  f_InvalidLane : XfC K c_InvalidLane
  n_InvalidLane : PySem.W.findIn K (.ref c_InvalidLane) "word" = some none
  i_InvalidLane : PySem.W.findIn K (.ref c_InvalidLane) "__init__" = some (some (.ref a_InvalidLane___init__))
  t_InvalidLane : PySem.W.typeIn K (.ref a_InvalidLane___init__) = some (.type "function")
  e_InvalidLane : PySem.W.exmOne K (.ref c_InvalidLane) (.ref c_InvalidLane) = some true
  c_InvalidBlock : Addr
  m_InvalidBlock : mg "InvalidBlock" = some (.ref c_InvalidBlock)
  a_InvalidBlock___init__ : Addr
  d_InvalidBlock___init__ : FuncData
  F_InvalidBlock___init__ : Fun K "__init__" "InvalidBlock.__init__" s_InvalidBlock___init__ a_InvalidBlock___init__ d_InvalidBlock___init__
  b_InvalidBlock___init__ : Binds K d_InvalidBlock___init__ ["self", "word"] []
  k_InvalidBlock___init__ : PySem.W.keepIn K (.ref a_InvalidBlock___init__) = true
  x_InvalidBlock : OexC K c_InvalidBlock
  X_InvalidBlock : ExX K c_InvalidBlock
  f_InvalidBlock : XfC K c_InvalidBlock
  n_InvalidBlock : PySem.W.findIn K (.ref c_InvalidBlock) "word" = some none
  i_InvalidBlock : PySem.W.findIn K (.ref c_InvalidBlock) "__init__" = some (some (.ref a_InvalidBlock___init__))
  t_InvalidBlock : PySem.W.typeIn K (.ref a_InvalidBlock___init__) = some (.type "function")
  e_InvalidBlock : PySem.W.exmOne K (.ref c_InvalidBlock) (.ref c_InvalidBlock) = some true
  c_InvalidPlan : Addr
  m_InvalidPlan : mg "InvalidPlan" = some (.ref c_InvalidPlan)
  q_InvalidPlan : PySem.W.excIn K c_InvalidPlan [.type "ValueError", .type "Exception", .type "BaseException", .type "object"] "ValueError.__new__" = true
  k_InvalidPlan : PySem.W.keepIn K (.ref c_InvalidPlan) = true
  r1_InvalidPlan : PySem.W.subIn K (.ref c_InvalidPlan) (.type "BaseException") = some true
  r2_InvalidPlan : PySem.W.typeIn K (.ref c_InvalidPlan) = some (.type "type")
  E_InvalidPlan : ExcC K c_InvalidPlan
  X_InvalidPlan : ExX K c_InvalidPlan
  e_InvalidPlan : PySem.W.exmOne K (.ref c_InvalidPlan) (.ref c_InvalidPlan) = some true
  c_InvalidText : Addr
  m_InvalidText : mg "InvalidText" = some (.ref c_InvalidText)
  a_InvalidText___init__ : Addr
  d_InvalidText___init__ : FuncData
  F_InvalidText___init__ : Fun K "__init__" "InvalidText.__init__" s_InvalidText___init__ a_InvalidText___init__ d_InvalidText___init__
  b_InvalidText___init__ : Binds K d_InvalidText___init__ ["self", "at"] []
  k_InvalidText___init__ : PySem.W.keepIn K (.ref a_InvalidText___init__) = true
  x_InvalidText : OexC K c_InvalidText
  X_InvalidText : ExX K c_InvalidText
  f_InvalidText : XfC K c_InvalidText
  n_InvalidText : PySem.W.findIn K (.ref c_InvalidText) "at" = some none
  i_InvalidText : PySem.W.findIn K (.ref c_InvalidText) "__init__" = some (some (.ref a_InvalidText___init__))
  t_InvalidText : PySem.W.typeIn K (.ref a_InvalidText___init__) = some (.type "function")
  e_InvalidText : PySem.W.exmOne K (.ref c_InvalidText) (.ref c_InvalidText) = some true
  c_InvalidRows : Addr
  m_InvalidRows : mg "InvalidRows" = some (.ref c_InvalidRows)
  a_InvalidRows___init__ : Addr
  d_InvalidRows___init__ : FuncData
  F_InvalidRows___init__ : Fun K "__init__" "InvalidRows.__init__" s_InvalidRows___init__ a_InvalidRows___init__ d_InvalidRows___init__
  b_InvalidRows___init__ : Binds K d_InvalidRows___init__ ["self", "at"] []
  k_InvalidRows___init__ : PySem.W.keepIn K (.ref a_InvalidRows___init__) = true
  x_InvalidRows : OexC K c_InvalidRows
  X_InvalidRows : ExX K c_InvalidRows
  f_InvalidRows : XfC K c_InvalidRows
  n_InvalidRows : PySem.W.findIn K (.ref c_InvalidRows) "at" = some none
  i_InvalidRows : PySem.W.findIn K (.ref c_InvalidRows) "__init__" = some (some (.ref a_InvalidRows___init__))
  t_InvalidRows : PySem.W.typeIn K (.ref a_InvalidRows___init__) = some (.type "function")
  e_InvalidRows : PySem.W.exmOne K (.ref c_InvalidRows) (.ref c_InvalidRows) = some true
  c_InvalidSlip : Addr
  m_InvalidSlip : mg "InvalidSlip" = some (.ref c_InvalidSlip)
  a_InvalidSlip___init__ : Addr
  d_InvalidSlip___init__ : FuncData
  F_InvalidSlip___init__ : Fun K "__init__" "InvalidSlip.__init__" s_InvalidSlip___init__ a_InvalidSlip___init__ d_InvalidSlip___init__
  b_InvalidSlip___init__ : Binds K d_InvalidSlip___init__ ["self", "word"] []
  k_InvalidSlip___init__ : PySem.W.keepIn K (.ref a_InvalidSlip___init__) = true
  x_InvalidSlip : OexC K c_InvalidSlip
  X_InvalidSlip : ExX K c_InvalidSlip
  f_InvalidSlip : XfC K c_InvalidSlip
  n_InvalidSlip : PySem.W.findIn K (.ref c_InvalidSlip) "word" = some none
  i_InvalidSlip : PySem.W.findIn K (.ref c_InvalidSlip) "__init__" = some (some (.ref a_InvalidSlip___init__))
  t_InvalidSlip : PySem.W.typeIn K (.ref a_InvalidSlip___init__) = some (.type "function")
  e_InvalidSlip : PySem.W.exmOne K (.ref c_InvalidSlip) (.ref c_InvalidSlip) = some true
  c_InvalidCalendar : Addr
  m_InvalidCalendar : mg "InvalidCalendar" = some (.ref c_InvalidCalendar)
  a_InvalidCalendar___init__ : Addr
  d_InvalidCalendar___init__ : FuncData
  F_InvalidCalendar___init__ : Fun K "__init__" "InvalidCalendar.__init__" s_InvalidCalendar___init__ a_InvalidCalendar___init__ d_InvalidCalendar___init__
  b_InvalidCalendar___init__ : Binds K d_InvalidCalendar___init__ ["self", "word"] []
  k_InvalidCalendar___init__ : PySem.W.keepIn K (.ref a_InvalidCalendar___init__) = true
  x_InvalidCalendar : OexC K c_InvalidCalendar
  X_InvalidCalendar : ExX K c_InvalidCalendar
  f_InvalidCalendar : XfC K c_InvalidCalendar
  n_InvalidCalendar : PySem.W.findIn K (.ref c_InvalidCalendar) "word" = some none
  i_InvalidCalendar : PySem.W.findIn K (.ref c_InvalidCalendar) "__init__" = some (some (.ref a_InvalidCalendar___init__))
  t_InvalidCalendar : PySem.W.typeIn K (.ref a_InvalidCalendar___init__) = some (.type "function")
  e_InvalidCalendar : PySem.W.exmOne K (.ref c_InvalidCalendar) (.ref c_InvalidCalendar) = some true
  c_InvalidFault : Addr
  m_InvalidFault : mg "InvalidFault" = some (.ref c_InvalidFault)
  q_InvalidFault : PySem.W.excIn K c_InvalidFault [.type "ValueError", .type "Exception", .type "BaseException", .type "object"] "ValueError.__new__" = true
  k_InvalidFault : PySem.W.keepIn K (.ref c_InvalidFault) = true
  r1_InvalidFault : PySem.W.subIn K (.ref c_InvalidFault) (.type "BaseException") = some true
  r2_InvalidFault : PySem.W.typeIn K (.ref c_InvalidFault) = some (.type "type")
  E_InvalidFault : ExcC K c_InvalidFault
  X_InvalidFault : ExX K c_InvalidFault
  e_InvalidFault : PySem.W.exmOne K (.ref c_InvalidFault) (.ref c_InvalidFault) = some true
  c_InvalidCommand : Addr
  m_InvalidCommand : mg "InvalidCommand" = some (.ref c_InvalidCommand)
  q_InvalidCommand : PySem.W.excIn K c_InvalidCommand [.type "ValueError", .type "Exception", .type "BaseException", .type "object"] "ValueError.__new__" = true
  k_InvalidCommand : PySem.W.keepIn K (.ref c_InvalidCommand) = true
  r1_InvalidCommand : PySem.W.subIn K (.ref c_InvalidCommand) (.type "BaseException") = some true
  r2_InvalidCommand : PySem.W.typeIn K (.ref c_InvalidCommand) = some (.type "type")
  E_InvalidCommand : ExcC K c_InvalidCommand
  X_InvalidCommand : ExX K c_InvalidCommand
  e_InvalidCommand : PySem.W.exmOne K (.ref c_InvalidCommand) (.ref c_InvalidCommand) = some true
  c_Refused : Addr
  m_Refused : mg "Refused" = some (.ref c_Refused)
  a_Refused___init__ : Addr
  d_Refused___init__ : FuncData
  F_Refused___init__ : Fun K "__init__" "Refused.__init__" s_Refused___init__ a_Refused___init__ d_Refused___init__
  b_Refused___init__ : Binds K d_Refused___init__ ["self", "at"] []
  k_Refused___init__ : PySem.W.keepIn K (.ref a_Refused___init__) = true
  x_Refused : OexC K c_Refused
  X_Refused : ExX K c_Refused
  f_Refused : XfC K c_Refused
  n_Refused : PySem.W.findIn K (.ref c_Refused) "at" = some none
  i_Refused : PySem.W.findIn K (.ref c_Refused) "__init__" = some (some (.ref a_Refused___init__))
  t_Refused : PySem.W.typeIn K (.ref a_Refused___init__) = some (.type "function")
  e_Refused : PySem.W.exmOne K (.ref c_Refused) (.ref c_Refused) = some true
  c_NoBlock : Addr
  m_NoBlock : mg "NoBlock" = some (.ref c_NoBlock)
  a_NoBlock___init__ : Addr
  d_NoBlock___init__ : FuncData
  F_NoBlock___init__ : Fun K "__init__" "NoBlock.__init__" s_NoBlock___init__ a_NoBlock___init__ d_NoBlock___init__
  b_NoBlock___init__ : Binds K d_NoBlock___init__ ["self", "at"] []
  k_NoBlock___init__ : PySem.W.keepIn K (.ref a_NoBlock___init__) = true
  x_NoBlock : OexI K c_NoBlock
  X_NoBlock : ExX K c_NoBlock
  f_NoBlock : XfC K c_NoBlock
  n_NoBlock : PySem.W.findIn K (.ref c_NoBlock) "at" = some none
  i_NoBlock : PySem.W.findIn K (.ref c_NoBlock) "__init__" = some (some (.ref a_NoBlock___init__))
  t_NoBlock : PySem.W.typeIn K (.ref a_NoBlock___init__) = some (.type "function")
  e_NoBlock : PySem.W.exmOne K (.ref c_NoBlock) (.ref c_NoBlock) = some true
  kit_InvalidText_InvalidText : PySem.W.kitOne K (.ref c_InvalidText) (.ref c_InvalidText) = some true
  kit_InvalidText_InvalidRows : PySem.W.kitOne K (.ref c_InvalidText) (.ref c_InvalidRows) = some false
  kit_InvalidText_Refused : PySem.W.kitOne K (.ref c_InvalidText) (.ref c_Refused) = some false
  kit_InvalidText_NoBlock : PySem.W.kitOne K (.ref c_InvalidText) (.ref c_NoBlock) = some false
  kit_InvalidText_InvalidForm : PySem.W.kitOne K (.ref c_InvalidText) (.ref c_InvalidForm) = some false
  kit_InvalidText_InvalidLane : PySem.W.kitOne K (.ref c_InvalidText) (.ref c_InvalidLane) = some false
  kit_InvalidText_InvalidBlock : PySem.W.kitOne K (.ref c_InvalidText) (.ref c_InvalidBlock) = some false
  kit_InvalidText_InvalidSlip : PySem.W.kitOne K (.ref c_InvalidText) (.ref c_InvalidSlip) = some false
  kit_InvalidText_InvalidCalendar : PySem.W.kitOne K (.ref c_InvalidText) (.ref c_InvalidCalendar) = some false
  kit_InvalidText_InvalidPlan : PySem.W.kitOne K (.ref c_InvalidText) (.ref c_InvalidPlan) = some false
  kit_InvalidText_InvalidFault : PySem.W.kitOne K (.ref c_InvalidText) (.ref c_InvalidFault) = some false
  kit_InvalidText_InvalidCommand : PySem.W.kitOne K (.ref c_InvalidText) (.ref c_InvalidCommand) = some false
  kit_InvalidText_RingError : PySem.W.kitOne K (.ref c_InvalidText) (.ref c_RingError) = some true
  kit_InvalidText_ValueError : PySem.W.kitOne K (.ref c_InvalidText) (.type "ValueError") = some true
  kit_InvalidRows_InvalidText : PySem.W.kitOne K (.ref c_InvalidRows) (.ref c_InvalidText) = some false
  kit_InvalidRows_InvalidRows : PySem.W.kitOne K (.ref c_InvalidRows) (.ref c_InvalidRows) = some true
  kit_InvalidRows_Refused : PySem.W.kitOne K (.ref c_InvalidRows) (.ref c_Refused) = some false
  kit_InvalidRows_NoBlock : PySem.W.kitOne K (.ref c_InvalidRows) (.ref c_NoBlock) = some false
  kit_InvalidRows_InvalidForm : PySem.W.kitOne K (.ref c_InvalidRows) (.ref c_InvalidForm) = some false
  kit_InvalidRows_InvalidLane : PySem.W.kitOne K (.ref c_InvalidRows) (.ref c_InvalidLane) = some false
  kit_InvalidRows_InvalidBlock : PySem.W.kitOne K (.ref c_InvalidRows) (.ref c_InvalidBlock) = some false
  kit_InvalidRows_InvalidSlip : PySem.W.kitOne K (.ref c_InvalidRows) (.ref c_InvalidSlip) = some false
  kit_InvalidRows_InvalidCalendar : PySem.W.kitOne K (.ref c_InvalidRows) (.ref c_InvalidCalendar) = some false
  kit_InvalidRows_InvalidPlan : PySem.W.kitOne K (.ref c_InvalidRows) (.ref c_InvalidPlan) = some false
  kit_InvalidRows_InvalidFault : PySem.W.kitOne K (.ref c_InvalidRows) (.ref c_InvalidFault) = some false
  kit_InvalidRows_InvalidCommand : PySem.W.kitOne K (.ref c_InvalidRows) (.ref c_InvalidCommand) = some false
  kit_InvalidRows_RingError : PySem.W.kitOne K (.ref c_InvalidRows) (.ref c_RingError) = some true
  kit_InvalidRows_ValueError : PySem.W.kitOne K (.ref c_InvalidRows) (.type "ValueError") = some true
  kit_Refused_InvalidText : PySem.W.kitOne K (.ref c_Refused) (.ref c_InvalidText) = some false
  kit_Refused_InvalidRows : PySem.W.kitOne K (.ref c_Refused) (.ref c_InvalidRows) = some false
  kit_Refused_Refused : PySem.W.kitOne K (.ref c_Refused) (.ref c_Refused) = some true
  kit_Refused_NoBlock : PySem.W.kitOne K (.ref c_Refused) (.ref c_NoBlock) = some false
  kit_Refused_InvalidForm : PySem.W.kitOne K (.ref c_Refused) (.ref c_InvalidForm) = some false
  kit_Refused_InvalidLane : PySem.W.kitOne K (.ref c_Refused) (.ref c_InvalidLane) = some false
  kit_Refused_InvalidBlock : PySem.W.kitOne K (.ref c_Refused) (.ref c_InvalidBlock) = some false
  kit_Refused_InvalidSlip : PySem.W.kitOne K (.ref c_Refused) (.ref c_InvalidSlip) = some false
  kit_Refused_InvalidCalendar : PySem.W.kitOne K (.ref c_Refused) (.ref c_InvalidCalendar) = some false
  kit_Refused_InvalidPlan : PySem.W.kitOne K (.ref c_Refused) (.ref c_InvalidPlan) = some false
  kit_Refused_InvalidFault : PySem.W.kitOne K (.ref c_Refused) (.ref c_InvalidFault) = some false
  kit_Refused_InvalidCommand : PySem.W.kitOne K (.ref c_Refused) (.ref c_InvalidCommand) = some false
  kit_Refused_RingError : PySem.W.kitOne K (.ref c_Refused) (.ref c_RingError) = some true
  kit_Refused_ValueError : PySem.W.kitOne K (.ref c_Refused) (.type "ValueError") = some true
  kit_NoBlock_InvalidText : PySem.W.kitOne K (.ref c_NoBlock) (.ref c_InvalidText) = some false
  kit_NoBlock_InvalidRows : PySem.W.kitOne K (.ref c_NoBlock) (.ref c_InvalidRows) = some false
  kit_NoBlock_Refused : PySem.W.kitOne K (.ref c_NoBlock) (.ref c_Refused) = some false
  kit_NoBlock_NoBlock : PySem.W.kitOne K (.ref c_NoBlock) (.ref c_NoBlock) = some true
  kit_NoBlock_InvalidForm : PySem.W.kitOne K (.ref c_NoBlock) (.ref c_InvalidForm) = some false
  kit_NoBlock_InvalidLane : PySem.W.kitOne K (.ref c_NoBlock) (.ref c_InvalidLane) = some false
  kit_NoBlock_InvalidBlock : PySem.W.kitOne K (.ref c_NoBlock) (.ref c_InvalidBlock) = some false
  kit_NoBlock_InvalidSlip : PySem.W.kitOne K (.ref c_NoBlock) (.ref c_InvalidSlip) = some false
  kit_NoBlock_InvalidCalendar : PySem.W.kitOne K (.ref c_NoBlock) (.ref c_InvalidCalendar) = some false
  kit_NoBlock_InvalidPlan : PySem.W.kitOne K (.ref c_NoBlock) (.ref c_InvalidPlan) = some false
  kit_NoBlock_InvalidFault : PySem.W.kitOne K (.ref c_NoBlock) (.ref c_InvalidFault) = some false
  kit_NoBlock_InvalidCommand : PySem.W.kitOne K (.ref c_NoBlock) (.ref c_InvalidCommand) = some false
  kit_NoBlock_RingError : PySem.W.kitOne K (.ref c_NoBlock) (.ref c_RingError) = some false
  kit_NoBlock_IndexError : PySem.W.kitOne K (.ref c_NoBlock) (.type "IndexError") = some true
  kit_InvalidForm_InvalidText : PySem.W.kitOne K (.ref c_InvalidForm) (.ref c_InvalidText) = some false
  kit_InvalidForm_InvalidRows : PySem.W.kitOne K (.ref c_InvalidForm) (.ref c_InvalidRows) = some false
  kit_InvalidForm_Refused : PySem.W.kitOne K (.ref c_InvalidForm) (.ref c_Refused) = some false
  kit_InvalidForm_NoBlock : PySem.W.kitOne K (.ref c_InvalidForm) (.ref c_NoBlock) = some false
  kit_InvalidForm_InvalidForm : PySem.W.kitOne K (.ref c_InvalidForm) (.ref c_InvalidForm) = some true
  kit_InvalidForm_InvalidLane : PySem.W.kitOne K (.ref c_InvalidForm) (.ref c_InvalidLane) = some false
  kit_InvalidForm_InvalidBlock : PySem.W.kitOne K (.ref c_InvalidForm) (.ref c_InvalidBlock) = some false
  kit_InvalidForm_InvalidSlip : PySem.W.kitOne K (.ref c_InvalidForm) (.ref c_InvalidSlip) = some false
  kit_InvalidForm_InvalidCalendar : PySem.W.kitOne K (.ref c_InvalidForm) (.ref c_InvalidCalendar) = some false
  kit_InvalidForm_InvalidPlan : PySem.W.kitOne K (.ref c_InvalidForm) (.ref c_InvalidPlan) = some false
  kit_InvalidForm_InvalidFault : PySem.W.kitOne K (.ref c_InvalidForm) (.ref c_InvalidFault) = some false
  kit_InvalidForm_InvalidCommand : PySem.W.kitOne K (.ref c_InvalidForm) (.ref c_InvalidCommand) = some false
  kit_InvalidForm_RingError : PySem.W.kitOne K (.ref c_InvalidForm) (.ref c_RingError) = some true
  kit_InvalidForm_ValueError : PySem.W.kitOne K (.ref c_InvalidForm) (.type "ValueError") = some true
  kit_InvalidLane_InvalidText : PySem.W.kitOne K (.ref c_InvalidLane) (.ref c_InvalidText) = some false
  kit_InvalidLane_InvalidRows : PySem.W.kitOne K (.ref c_InvalidLane) (.ref c_InvalidRows) = some false
  kit_InvalidLane_Refused : PySem.W.kitOne K (.ref c_InvalidLane) (.ref c_Refused) = some false
  kit_InvalidLane_NoBlock : PySem.W.kitOne K (.ref c_InvalidLane) (.ref c_NoBlock) = some false
  kit_InvalidLane_InvalidForm : PySem.W.kitOne K (.ref c_InvalidLane) (.ref c_InvalidForm) = some false
  kit_InvalidLane_InvalidLane : PySem.W.kitOne K (.ref c_InvalidLane) (.ref c_InvalidLane) = some true
  kit_InvalidLane_InvalidBlock : PySem.W.kitOne K (.ref c_InvalidLane) (.ref c_InvalidBlock) = some false
  kit_InvalidLane_InvalidSlip : PySem.W.kitOne K (.ref c_InvalidLane) (.ref c_InvalidSlip) = some false
  kit_InvalidLane_InvalidCalendar : PySem.W.kitOne K (.ref c_InvalidLane) (.ref c_InvalidCalendar) = some false
  kit_InvalidLane_InvalidPlan : PySem.W.kitOne K (.ref c_InvalidLane) (.ref c_InvalidPlan) = some false
  kit_InvalidLane_InvalidFault : PySem.W.kitOne K (.ref c_InvalidLane) (.ref c_InvalidFault) = some false
  kit_InvalidLane_InvalidCommand : PySem.W.kitOne K (.ref c_InvalidLane) (.ref c_InvalidCommand) = some false
  kit_InvalidLane_RingError : PySem.W.kitOne K (.ref c_InvalidLane) (.ref c_RingError) = some true
  kit_InvalidLane_ValueError : PySem.W.kitOne K (.ref c_InvalidLane) (.type "ValueError") = some true
  kit_InvalidBlock_InvalidText : PySem.W.kitOne K (.ref c_InvalidBlock) (.ref c_InvalidText) = some false
  kit_InvalidBlock_InvalidRows : PySem.W.kitOne K (.ref c_InvalidBlock) (.ref c_InvalidRows) = some false
  kit_InvalidBlock_Refused : PySem.W.kitOne K (.ref c_InvalidBlock) (.ref c_Refused) = some false
  kit_InvalidBlock_NoBlock : PySem.W.kitOne K (.ref c_InvalidBlock) (.ref c_NoBlock) = some false
  kit_InvalidBlock_InvalidForm : PySem.W.kitOne K (.ref c_InvalidBlock) (.ref c_InvalidForm) = some false
  kit_InvalidBlock_InvalidLane : PySem.W.kitOne K (.ref c_InvalidBlock) (.ref c_InvalidLane) = some false
  kit_InvalidBlock_InvalidBlock : PySem.W.kitOne K (.ref c_InvalidBlock) (.ref c_InvalidBlock) = some true
  kit_InvalidBlock_InvalidSlip : PySem.W.kitOne K (.ref c_InvalidBlock) (.ref c_InvalidSlip) = some false
  kit_InvalidBlock_InvalidCalendar : PySem.W.kitOne K (.ref c_InvalidBlock) (.ref c_InvalidCalendar) = some false
  kit_InvalidBlock_InvalidPlan : PySem.W.kitOne K (.ref c_InvalidBlock) (.ref c_InvalidPlan) = some false
  kit_InvalidBlock_InvalidFault : PySem.W.kitOne K (.ref c_InvalidBlock) (.ref c_InvalidFault) = some false
  kit_InvalidBlock_InvalidCommand : PySem.W.kitOne K (.ref c_InvalidBlock) (.ref c_InvalidCommand) = some false
  kit_InvalidBlock_RingError : PySem.W.kitOne K (.ref c_InvalidBlock) (.ref c_RingError) = some true
  kit_InvalidBlock_ValueError : PySem.W.kitOne K (.ref c_InvalidBlock) (.type "ValueError") = some true
  kit_InvalidSlip_InvalidText : PySem.W.kitOne K (.ref c_InvalidSlip) (.ref c_InvalidText) = some false
  kit_InvalidSlip_InvalidRows : PySem.W.kitOne K (.ref c_InvalidSlip) (.ref c_InvalidRows) = some false
  kit_InvalidSlip_Refused : PySem.W.kitOne K (.ref c_InvalidSlip) (.ref c_Refused) = some false
  kit_InvalidSlip_NoBlock : PySem.W.kitOne K (.ref c_InvalidSlip) (.ref c_NoBlock) = some false
  kit_InvalidSlip_InvalidForm : PySem.W.kitOne K (.ref c_InvalidSlip) (.ref c_InvalidForm) = some false
  kit_InvalidSlip_InvalidLane : PySem.W.kitOne K (.ref c_InvalidSlip) (.ref c_InvalidLane) = some false
  kit_InvalidSlip_InvalidBlock : PySem.W.kitOne K (.ref c_InvalidSlip) (.ref c_InvalidBlock) = some false
  kit_InvalidSlip_InvalidSlip : PySem.W.kitOne K (.ref c_InvalidSlip) (.ref c_InvalidSlip) = some true
  kit_InvalidSlip_InvalidCalendar : PySem.W.kitOne K (.ref c_InvalidSlip) (.ref c_InvalidCalendar) = some false
  kit_InvalidSlip_InvalidPlan : PySem.W.kitOne K (.ref c_InvalidSlip) (.ref c_InvalidPlan) = some false
  kit_InvalidSlip_InvalidFault : PySem.W.kitOne K (.ref c_InvalidSlip) (.ref c_InvalidFault) = some false
  kit_InvalidSlip_InvalidCommand : PySem.W.kitOne K (.ref c_InvalidSlip) (.ref c_InvalidCommand) = some false
  kit_InvalidSlip_RingError : PySem.W.kitOne K (.ref c_InvalidSlip) (.ref c_RingError) = some true
  kit_InvalidSlip_ValueError : PySem.W.kitOne K (.ref c_InvalidSlip) (.type "ValueError") = some true
  kit_InvalidCalendar_InvalidText : PySem.W.kitOne K (.ref c_InvalidCalendar) (.ref c_InvalidText) = some false
  kit_InvalidCalendar_InvalidRows : PySem.W.kitOne K (.ref c_InvalidCalendar) (.ref c_InvalidRows) = some false
  kit_InvalidCalendar_Refused : PySem.W.kitOne K (.ref c_InvalidCalendar) (.ref c_Refused) = some false
  kit_InvalidCalendar_NoBlock : PySem.W.kitOne K (.ref c_InvalidCalendar) (.ref c_NoBlock) = some false
  kit_InvalidCalendar_InvalidForm : PySem.W.kitOne K (.ref c_InvalidCalendar) (.ref c_InvalidForm) = some false
  kit_InvalidCalendar_InvalidLane : PySem.W.kitOne K (.ref c_InvalidCalendar) (.ref c_InvalidLane) = some false
  kit_InvalidCalendar_InvalidBlock : PySem.W.kitOne K (.ref c_InvalidCalendar) (.ref c_InvalidBlock) = some false
  kit_InvalidCalendar_InvalidSlip : PySem.W.kitOne K (.ref c_InvalidCalendar) (.ref c_InvalidSlip) = some false
  kit_InvalidCalendar_InvalidCalendar : PySem.W.kitOne K (.ref c_InvalidCalendar) (.ref c_InvalidCalendar) = some true
  kit_InvalidCalendar_InvalidPlan : PySem.W.kitOne K (.ref c_InvalidCalendar) (.ref c_InvalidPlan) = some false
  kit_InvalidCalendar_InvalidFault : PySem.W.kitOne K (.ref c_InvalidCalendar) (.ref c_InvalidFault) = some false
  kit_InvalidCalendar_InvalidCommand : PySem.W.kitOne K (.ref c_InvalidCalendar) (.ref c_InvalidCommand) = some false
  kit_InvalidCalendar_RingError : PySem.W.kitOne K (.ref c_InvalidCalendar) (.ref c_RingError) = some true
  kit_InvalidCalendar_ValueError : PySem.W.kitOne K (.ref c_InvalidCalendar) (.type "ValueError") = some true
  kit_InvalidPlan_InvalidText : PySem.W.kitOne K (.ref c_InvalidPlan) (.ref c_InvalidText) = some false
  kit_InvalidPlan_InvalidRows : PySem.W.kitOne K (.ref c_InvalidPlan) (.ref c_InvalidRows) = some false
  kit_InvalidPlan_Refused : PySem.W.kitOne K (.ref c_InvalidPlan) (.ref c_Refused) = some false
  kit_InvalidPlan_NoBlock : PySem.W.kitOne K (.ref c_InvalidPlan) (.ref c_NoBlock) = some false
  kit_InvalidPlan_InvalidForm : PySem.W.kitOne K (.ref c_InvalidPlan) (.ref c_InvalidForm) = some false
  kit_InvalidPlan_InvalidLane : PySem.W.kitOne K (.ref c_InvalidPlan) (.ref c_InvalidLane) = some false
  kit_InvalidPlan_InvalidBlock : PySem.W.kitOne K (.ref c_InvalidPlan) (.ref c_InvalidBlock) = some false
  kit_InvalidPlan_InvalidSlip : PySem.W.kitOne K (.ref c_InvalidPlan) (.ref c_InvalidSlip) = some false
  kit_InvalidPlan_InvalidCalendar : PySem.W.kitOne K (.ref c_InvalidPlan) (.ref c_InvalidCalendar) = some false
  kit_InvalidPlan_InvalidPlan : PySem.W.kitOne K (.ref c_InvalidPlan) (.ref c_InvalidPlan) = some true
  kit_InvalidPlan_InvalidFault : PySem.W.kitOne K (.ref c_InvalidPlan) (.ref c_InvalidFault) = some false
  kit_InvalidPlan_InvalidCommand : PySem.W.kitOne K (.ref c_InvalidPlan) (.ref c_InvalidCommand) = some false
  kit_InvalidPlan_RingError : PySem.W.kitOne K (.ref c_InvalidPlan) (.ref c_RingError) = some true
  kit_InvalidPlan_ValueError : PySem.W.kitOne K (.ref c_InvalidPlan) (.type "ValueError") = some true
  kit_InvalidFault_InvalidText : PySem.W.kitOne K (.ref c_InvalidFault) (.ref c_InvalidText) = some false
  kit_InvalidFault_InvalidRows : PySem.W.kitOne K (.ref c_InvalidFault) (.ref c_InvalidRows) = some false
  kit_InvalidFault_Refused : PySem.W.kitOne K (.ref c_InvalidFault) (.ref c_Refused) = some false
  kit_InvalidFault_NoBlock : PySem.W.kitOne K (.ref c_InvalidFault) (.ref c_NoBlock) = some false
  kit_InvalidFault_InvalidForm : PySem.W.kitOne K (.ref c_InvalidFault) (.ref c_InvalidForm) = some false
  kit_InvalidFault_InvalidLane : PySem.W.kitOne K (.ref c_InvalidFault) (.ref c_InvalidLane) = some false
  kit_InvalidFault_InvalidBlock : PySem.W.kitOne K (.ref c_InvalidFault) (.ref c_InvalidBlock) = some false
  kit_InvalidFault_InvalidSlip : PySem.W.kitOne K (.ref c_InvalidFault) (.ref c_InvalidSlip) = some false
  kit_InvalidFault_InvalidCalendar : PySem.W.kitOne K (.ref c_InvalidFault) (.ref c_InvalidCalendar) = some false
  kit_InvalidFault_InvalidPlan : PySem.W.kitOne K (.ref c_InvalidFault) (.ref c_InvalidPlan) = some false
  kit_InvalidFault_InvalidFault : PySem.W.kitOne K (.ref c_InvalidFault) (.ref c_InvalidFault) = some true
  kit_InvalidFault_InvalidCommand : PySem.W.kitOne K (.ref c_InvalidFault) (.ref c_InvalidCommand) = some false
  kit_InvalidFault_RingError : PySem.W.kitOne K (.ref c_InvalidFault) (.ref c_RingError) = some true
  kit_InvalidFault_ValueError : PySem.W.kitOne K (.ref c_InvalidFault) (.type "ValueError") = some true
  kit_InvalidCommand_InvalidText : PySem.W.kitOne K (.ref c_InvalidCommand) (.ref c_InvalidText) = some false
  kit_InvalidCommand_InvalidRows : PySem.W.kitOne K (.ref c_InvalidCommand) (.ref c_InvalidRows) = some false
  kit_InvalidCommand_Refused : PySem.W.kitOne K (.ref c_InvalidCommand) (.ref c_Refused) = some false
  kit_InvalidCommand_NoBlock : PySem.W.kitOne K (.ref c_InvalidCommand) (.ref c_NoBlock) = some false
  kit_InvalidCommand_InvalidForm : PySem.W.kitOne K (.ref c_InvalidCommand) (.ref c_InvalidForm) = some false
  kit_InvalidCommand_InvalidLane : PySem.W.kitOne K (.ref c_InvalidCommand) (.ref c_InvalidLane) = some false
  kit_InvalidCommand_InvalidBlock : PySem.W.kitOne K (.ref c_InvalidCommand) (.ref c_InvalidBlock) = some false
  kit_InvalidCommand_InvalidSlip : PySem.W.kitOne K (.ref c_InvalidCommand) (.ref c_InvalidSlip) = some false
  kit_InvalidCommand_InvalidCalendar : PySem.W.kitOne K (.ref c_InvalidCommand) (.ref c_InvalidCalendar) = some false
  kit_InvalidCommand_InvalidPlan : PySem.W.kitOne K (.ref c_InvalidCommand) (.ref c_InvalidPlan) = some false
  kit_InvalidCommand_InvalidFault : PySem.W.kitOne K (.ref c_InvalidCommand) (.ref c_InvalidFault) = some false
  kit_InvalidCommand_InvalidCommand : PySem.W.kitOne K (.ref c_InvalidCommand) (.ref c_InvalidCommand) = some true
  kit_InvalidCommand_RingError : PySem.W.kitOne K (.ref c_InvalidCommand) (.ref c_RingError) = some true
  kit_InvalidCommand_ValueError : PySem.W.kitOne K (.ref c_InvalidCommand) (.type "ValueError") = some true
  a__law_box : Addr
  d__law_box : FuncData
  F__law_box : Fun K "_law_box" "_law_box" s__law_box a__law_box d__law_box
  b__law_box : Binds K d__law_box ["_law_script", "_law_k"] []
  k__law_box : PySem.W.keepIn K (.ref a__law_box) = true
  m__law_box : mg "_law_box" = some (.ref a__law_box)
  a__law_take : Addr
  d__law_take : FuncData
  F__law_take : Fun K "_law_take" "_law_take" s__law_take a__law_take d__law_take
  b__law_take : Binds K d__law_take ["_law_box_here", "_law_many"] []
  k__law_take : PySem.W.keepIn K (.ref a__law_take) = true
  m__law_take : mg "_law_take" = some (.ref a__law_take)
  a__law_pick : Addr
  d__law_pick : FuncData
  F__law_pick : Fun K "_law_pick" "_law_pick" s__law_pick a__law_pick d__law_pick
  b__law_pick : Binds K d__law_pick ["_law_box_here", "_law_some"] []
  k__law_pick : PySem.W.keepIn K (.ref a__law_pick) = true
  m__law_pick : mg "_law_pick" = some (.ref a__law_pick)
  a__law_any : Addr
  d__law_any : FuncData
  F__law_any : Fun K "_law_any" "_law_any" s__law_any a__law_any d__law_any
  b__law_any : Binds K d__law_any ["_law_box_here", "_law_deep"] []
  k__law_any : PySem.W.keepIn K (.ref a__law_any) = true
  m__law_any : mg "_law_any" = some (.ref a__law_any)
  a__law_made : Addr
  d__law_made : FuncData
  F__law_made : Fun K "_law_made" "_law_made" s__law_made a__law_made d__law_made
  b__law_made : Binds K d__law_made ["_law_at", "_law_value"] []
  k__law_made : PySem.W.keepIn K (.ref a__law_made) = true
  m__law_made : mg "_law_made" = some (.ref a__law_made)
  a__law_sorts : Addr
  d__law_sorts : FuncData
  F__law_sorts : Fun K "_law_sorts" "_law_sorts" s__law_sorts a__law_sorts d__law_sorts
  b__law_sorts : Binds K d__law_sorts ["_law_e"] []
  k__law_sorts : PySem.W.keepIn K (.ref a__law_sorts) = true
  m__law_sorts : mg "_law_sorts" = some (.ref a__law_sorts)
  a__law_is_kept : Addr
  d__law_is_kept : FuncData
  F__law_is_kept : Fun K "_law_is_kept" "_law_is_kept" s__law_is_kept a__law_is_kept d__law_is_kept
  b__law_is_kept : Binds K d__law_is_kept ["_law_e", "_law_at", "_law_value"] []
  k__law_is_kept : PySem.W.keepIn K (.ref a__law_is_kept) = true
  m__law_is_kept : mg "_law_is_kept" = some (.ref a__law_is_kept)
  a_law : Addr
  d_law : FuncData
  F_law : Fun K "law" "law" s_law a_law d_law
  b_law : Binds K d_law ["_law_script"] []
  k_law : PySem.W.keepIn K (.ref a_law) = true
  m_law : mg "law" = some (.ref a_law)
  z_IndexError : mg "IndexError" = none
  z_ValueError : mg "ValueError" = none
  z_abs : mg "abs" = none
  z_enumerate : mg "enumerate" = none
  z_int : mg "int" = none
  z_isinstance : mg "isinstance" = none
  z_len : mg "len" = none
  z_max : mg "max" = none
  z_min : mg "min" = none
  z_range : mg "range" = none
  z_repr : mg "repr" = none
  z_tuple : mg "tuple" = none
section
variable {P : Program} {w : World} {K : PySem.W.Frag} {mg : Str → Option Value} {base : Heap}
def spTake : Sp := fun vs H Q _ => ∃ (b : Addr) (m : Int), vs = [.ref b, .int m] ∧ Box H b ∧ 0 < m ∧ m < 2 ^ 40 ∧
  ∀ (r : Int) (H' : Hp), 0 ≤ r → r < m → Box H' b → But b H H' → Q (.int r) H'
theorem ok_take (T : Txt K mg) : FnOk P w K mg base CX0 1 T.a__law_take T.d__law_take ["_law_box_here", "_law_many"] spTake := by
  refine T.F__law_take.ok sc__law_take (fun vs H Q E h => ?_) (fun cdv A outer s H vs Q E hr h => ?_)
  · obtain ⟨b, m, rfl, _⟩ := h
    rfl
  · obtain ⟨b, m, rfl, ⟨x, y, z, hb, ⟨x0, y1, y2⟩⟩, m0, m1, k⟩ := h
    have nd := sc__law_take.nd
    refine ⟨_, (pss_cons (ps_if (pt_cmpR op_gt (pe_ix ix_list (pv 0) pe_int (fun _ _ => rfl)) pe_int (nomark _)) (pss_cons (ps_set (i := 2) nd rfl (Or.inl rfl) (pe_op op_mod (pe_callTy call_int1 (by rfl) T.z_int (by decide +kernel) (pa_cons (pe_ix ix_list (pv 0) pe_int (fun _ _ => rfl)) pa_nil)) (pv 1)))
    (pss_cons (ps_asg (pe_op op_fdivW (pe_ix ix_list (pv 0) pe_int (fun _ _ => rfl)) (pv 1)) (pg_sub (pv 0) pe_int set_list))
    (pss_one (ps_ret (pv 2))))) pss_nil)
    (pss_cons (ps_asg (pe_op op_add (pe_ix ix_list (pv 0) pe_int (fun _ _ => rfl)) pe_int) (pg_sub (pv 0) pe_int set_list))
    (pss_cons (ps_set (i := 3) nd rfl (Or.inl rfl) (pe_op op_mod (pe_callTy call_int1 (by rfl) T.z_int (by decide +kernel) (pa_cons (pe_op op_mul (pe_op op_add (pe_ix ix_list (pv 0) pe_int (fun _ _ => rfl)) (pe_op op_mul pe_int (pe_ix ix_list (pv 0) pe_int (fun _ _ => rfl)))) pe_int) pa_nil)) pe_int))
    (pss_cons (ps_asg (pe_op op_add (pe_op op_mod (pe_callTy call_int1 (by rfl) T.z_int (by decide +kernel) (pa_cons (pe_op op_add (pe_op op_mul (pv 3) pe_int) pe_int) pa_nil)) pe_int) pe_int) (pg_sub (pv 0) pe_int set_list))
    (pss_one (ps_ret (pe_op op_mod (pe_callTy call_int1 (by rfl) T.z_int (by decide +kernel) (pa_cons (pe_op op_fdiv (pe_op op_add (pe_op op_mul (pv 3) pe_int) (pe_ix ix_list (pv 0) pe_int (fun _ _ => rfl))) pe_int) pa_nil)) (pv 1)))))))), ?_⟩
    repeat walk_at "st"
    refine ifB (fun e => ?_) (fun e => ?_)
    · repeat walk_at "st"
      exact k _ _ (Int.emod_nonneg _ (by omega)) (Int.emod_lt_of_pos _ m0) ⟨x / m, y, z, upd_same, Int.ediv_nonneg x0 (by omega), y1, y2⟩ (But.refl _ _).upd
    · repeat walk_at "st"
      exact k _ _ (Int.emod_nonneg _ (by omega)) (Int.emod_lt_of_pos _ m0) ⟨_, _, _, upd_same, x0, by omega, by omega⟩ (((But.refl _ _).upd).upd)
local macro_rules | `(tactic| walk_at "boxtail") => `(tactic| (
  repeat walk_at "st"
  refine ifB (fun e9 => ?_) (fun e9 => ?_)))
/-- the box of a cell -/
def spBox (K : PySem.W.Frag) : Sp := fun vs H Q _ => ∃ (a : Addr) (ns : List Int) (i : Int), vs = [.ref a, .int i] ∧ SqL K H a (ns.map V.int) ∧ 0 ≤ i ∧ i < 1000 ∧
  ∀ (H' : Hp) (p : Addr), Same H H' → H p = none → Box H' p → Q (.ref p) H'
theorem ok_box (T : Txt K mg) : FnOk P w K mg base CX0 1 T.a__law_box T.d__law_box ["_law_script", "_law_k"] (spBox K) := by
  refine T.F__law_box.ok sc__law_box (fun vs H Q E h => ?_) (fun cdv A outer s H vs Q E hr h => ?_)
  · obtain ⟨a, ns, i, rfl, _⟩ := h
    rfl
  · obtain ⟨a, ns, i, rfl, hS, i0, i1, k⟩ := h
    have nd := sc__law_box.nd
    refine ⟨_, (pss_cons (ps_set (i := 2) nd rfl (Or.inl rfl) (pe_op op_add (pe_op op_mul pe_int (pv 1)) pe_int))
    (pss_cons (ps_if (pt_cmpR op_lt (pv 1) (pe_callB call_len_seq (by rfl) T.z_len (by decide +kernel) (pa_cons (pv 0) pa_nil)) (nomark _)) (pss_one (ps_set (i := 2) nd rfl (Or.inl rfl) (pe_callB call_abs (by rfl) T.z_abs (by decide +kernel) (pa_cons (pe_callTy call_int1 (by rfl) T.z_int (by decide +kernel) (pa_cons (pe_ix ix_list (pv 0) (pv 1) (fun _ _ => rfl)) pa_nil)) pa_nil)))) (pss_one (ps_if (pt_cmpR op_gt (pe_callB call_len_seq (by rfl) T.z_len (by decide +kernel) (pa_cons (pv 0) pa_nil)) pe_int (nomark _)) (pss_one (ps_set (i := 2) nd rfl (Or.inl rfl) (pe_op op_add (pv 2) (pe_op op_mul (pe_op op_mod (pe_callTy call_int1 (by rfl) T.z_int (by decide +kernel) (pa_cons (pe_ix ix_list (pv 0) (pe_op op_mod (pe_callTy call_int1 (by rfl) T.z_int (by decide +kernel) (pa_cons (pv 1) pa_nil)) (pe_callB call_len_seq (by rfl) T.z_len (by decide +kernel) (pa_cons (pv 0) pa_nil))) (fun _ _ => rfl)) pa_nil)) pe_int) pe_int)))) pss_nil)))
    (pss_cons (ps_set (i := 3) nd rfl (Or.inl rfl) (pe_op op_add (pe_op op_mod (pe_callTy call_int1 (by rfl) T.z_int (by decide +kernel) (pa_cons (pe_op op_add (pe_op op_add (pe_op op_mul (pe_op op_mod (pe_callTy call_int1 (by rfl) T.z_int (by decide +kernel) (pa_cons (pv 2) pa_nil)) pe_int) pe_int) (pe_op op_mul pe_int (pv 1))) pe_int) pa_nil)) pe_int) pe_int))
    (pss_cons (ps_set (i := 4) nd rfl (Or.inl rfl) (pe_ifExp (pt_cmpR op_ge (pv 2) (pe_op op_pow pe_int pe_int) (nomark _)) (pv 2) pe_int))
    (pss_one (ps_ret (pe_lst (pa_cons (pv 4) (pa_cons (pv 3) (pa_cons pe_int pa_nil)))))))))), ?_⟩
    repeat walk_at "st"
    refine ifB (fun e => ?_) (fun e => ?_)
    · have e := of_decide_eq_true e
      rw [List.length_map] at e
      obtain ⟨z, hz⟩ := ints_at i0 e
      refine ⟨_, rfl, _, rfl, _, _, _, _, rfl, rfl, hS, hz, ?_⟩
      have c0 := natAbs_abs (i := z)
      walk_at "boxtail"
      all_goals
        repeat walk_at "st"
        refine ⟨szL (Nat.le_of_ble_eq_true rfl), fun q hq => ?_⟩
        exact k _ _ (same_new (by assumption)) (by assumption) ⟨_, _, _, upd_same, by first | exact c0 | decide, by walk_at "om", by walk_at "om"⟩
    · repeat walk_at "st"
      refine ifB (fun e1 => ?_) (fun e1 => ?_)
      · have e1 := of_decide_eq_true e1
        repeat walk_at "st"
        rw [List.length_map] at e1
        obtain ⟨z, hz⟩ := ints_at (ns := ns) (k := i % ((ns.map V.int).length : Nat)) (Int.emod_nonneg _ (by rw [List.length_map]; omega)) (by rw [List.length_map]; exact Int.emod_lt_of_pos _ (by omega))
        refine ⟨_, _, _, _, rfl, rfl, hS, hz, ?_⟩
        walk_at "boxtail"
        all_goals
          repeat walk_at "st"
          refine ⟨szL (Nat.le_of_ble_eq_true rfl), fun q hq => ?_⟩
          exact k _ _ (same_new (by assumption)) (by assumption) ⟨_, _, _, upd_same, by walk_at "om", by walk_at "om", by walk_at "om"⟩
      · walk_at "boxtail"
        all_goals
          repeat walk_at "st"
          refine ⟨szL (Nat.le_of_ble_eq_true rfl), fun q hq => ?_⟩
          exact k _ _ (same_new (by assumption)) (by assumption) ⟨_, _, _, upd_same, by walk_at "om", by walk_at "om", by walk_at "om"⟩

/-- one of the items of a list -/
def spPick : Sp := fun vs H Q _ => ∃ (b L : Addr) (xs : List V), vs = [.ref b, .ref L] ∧ Box H b ∧ L ≠ b ∧ H L = some (.lst xs) ∧ 0 < xs.length ∧ xs.length < 1000 ∧
  ∀ (v : V) (H' : Hp), v ∈ xs → Box H' b → But b H H' → Q v H'
theorem ok_pick (T : Txt K mg) : FnOk P w K mg base CX0 2 T.a__law_pick T.d__law_pick ["_law_box_here", "_law_some"] spPick := by
  have G__law_take : FnOk P w K mg base CX0 1 T.a__law_take T.d__law_take ["_law_box_here", "_law_many"] spTake := ok_take T
  refine T.F__law_pick.ok sc__law_pick (fun vs H Q E h => ?_) (fun cdv A outer s H vs Q E hr h => ?_)
  · obtain ⟨b, L, xs, rfl, _⟩ := h
    rfl
  · obtain ⟨b, L, xs, rfl, hB, hne, hL, l0, l1, k⟩ := h
    have nd := sc__law_pick.nd
    refine ⟨_, (pss_one (ps_ret (pe_ix ix_list (pv 1) (pe_call G__law_take (hr.mono (by first | decide | omega)) (by rfl) T.m__law_take T.k__law_take T.b__law_take .nil pass0 (pa_cons (pv 0) (pa_cons (pe_callB call_len_seq (by rfl) T.z_len (by decide +kernel) (pa_cons (pv 1) pa_nil)) pa_nil))) (fun _ _ => rfl)))), ?_⟩
    repeat walk_at "st"
    refine ⟨b, _, rfl, hB, by omega, by omega, fun r H' r0 r1 B' k' => ?_⟩
    obtain ⟨v, hv, hz⟩ := mem_at r0 r1
    exact ⟨_, _, _, _, rfl, rfl, SqL.of (k' _ _ hne hL), hz, k v H' hv B' k'⟩

end
end K01
namespace K01
open PySem PySem.Spec PyProof.Rows L2 Rs
local macro_rules | `(tactic| walk_at "om") => `(tactic| first | omega | (dsimp only; omega))
local macro_rules | `(tactic| walk_at "side") => `(tactic| first | omega | (dsimp only; omega) | decide | (unfold CMul; omega) | (unfold CDiv; omega) | (unfold CPow; omega) | exact wide_div (b := 64) (by omega) (by omega) (by decide) (by decide))
local macro_rules | `(tactic| walk_at "hp") => `(tactic| first | assumption | exact upd_same)
local macro_rules | `(tactic| walk_at "sq") => `(tactic| first | assumption | exact SqL.of (by assumption) | exact SqL.of upd_same)
local macro_rules | `(tactic| walk_at "st") => `(tactic| first
  | refine ⟨_, rfl, ?_⟩
  | (refine ⟨_, _, rfl, rfl, And.intro ?side ?_⟩; (case side => walk_at "side"))
  | refine ⟨_, _, rfl, rfl, ?_⟩
  | (refine' ⟨_, _, _, _, rfl, rfl, SqL.of ?hp, ?atx, ?_⟩; (case hp => walk_at "hp"); (case atx => exact rfl))
  | (refine' ⟨_, _, _, _, rfl, rfl, ?hp, ?atx, ?_⟩; (case hp => walk_at "hp"); (case atx => exact rfl))
  | (refine' ⟨_, _, rfl, Or.inl ?sq, ?_⟩; (case sq => walk_at "sq"))
  | refine Or.inl ⟨_, rfl, ?_⟩
  | refine Or.inr ⟨_, rfl, ?_⟩)
local macro_rules | `(tactic| walk_at "evd") => `(tactic| first
  | exact evd_int
  | exact evd_str
  | exact evd_non
  | exact evd_bl
  | exact evd_nil
  | (refine evd_cons ?_ (fun _ => ?_) <;> walk_at "evd")
  | (refine evd_tup ?_ (Nat.le_of_ble_eq_true rfl); walk_at "evd"))

section
variable {P : Program} {w : World} {K : PySem.W.Frag} {mg : Str → Option Value} {base : Heap}
mutual
/-- a value and its data; no list of it stands where S says -/
inductive Da (S : Addr → Prop) (H : Hp) : V → PyData → Prop
  | non : Da S H .non .none
  | bl (b : Bool) : Da S H (.bl b) (.bool b)
  | int (i : Int) : Da S H (.int i) (.int i)
  | str (x : Str) : Da S H (.str x) (.str x)
  | lst {a : Addr} {xs : List V} {ds : List PyData} : ¬ S a → H a = some (.lst xs) → DaAll S H xs ds → Da S H (.ref a) (.list ds)
  | tup {a : Addr} {xs : List V} {ds : List PyData} : H a = some (.tup xs) → DaAll S H xs ds → Da S H (.ref a) (.tuple ds)
inductive DaAll (S : Addr → Prop) (H : Hp) : List V → List PyData → Prop
  | nil : DaAll S H [] []
  | cons {v : V} {vs : List V} {d : PyData} {ds : List PyData} : Da S H v d → DaAll S H vs ds → DaAll S H (v :: vs) (d :: ds)
end
section
variable {S S' : Addr → Prop} {H H' : Hp}
mutual
theorem Da.mono (hS : ∀ a, S' a → S a) (hL : ∀ a xs, ¬ S a → H a = some (.lst xs) → H' a = some (.lst xs)) (hT : ∀ a xs, H a = some (.tup xs) → H' a = some (.tup xs)) : ∀ (d : PyData) (v : V), Da S H v d → Da S' H' v d
  | .none, _, h => by cases h; exact .non
  | .bool _, _, h => by cases h; exact .bl _
  | .int _, _, h => by cases h; exact .int _
  | .str _, _, h => by cases h; exact .str _
  | .list ds, _, h => by
    cases h with
    | lst n e a => exact .lst (fun z => n (hS _ z)) (hL _ _ n e) (DaAll.mono hS hL hT ds _ a)
  | .tuple ds, _, h => by
    cases h with
    | tup e a => exact .tup (hT _ _ e) (DaAll.mono hS hL hT ds _ a)
  | .dict _, _, h => nomatch h
theorem DaAll.mono (hS : ∀ a, S' a → S a) (hL : ∀ a xs, ¬ S a → H a = some (.lst xs) → H' a = some (.lst xs)) (hT : ∀ a xs, H a = some (.tup xs) → H' a = some (.tup xs)) : ∀ (ds : List PyData) (vs : List V), DaAll S H vs ds → DaAll S' H' vs ds
  | [], _, h => by cases h; exact .nil
  | d :: ds, _, h => by
    cases h with
    | cons a b => exact .cons (Da.mono hS hL hT d _ a) (DaAll.mono hS hL hT ds _ b)
end
mutual
theorem Da.dp : ∀ (d : PyData) (v : V), Da S H v d → Dp K H v d
  | .none, _, h => by cases h; exact .non
  | .bool _, _, h => by cases h; exact .bl _
  | .int _, _, h => by cases h; exact .int _
  | .str _, _, h => by cases h; exact .str _
  | .list ds, _, h => by
    cases h with
    | lst n e a => exact .lst (SqL.of e) (DaAll.dp ds _ a)
  | .tuple ds, _, h => by
    cases h with
    | tup e a => exact .tup (SqT.of e) (DaAll.dp ds _ a)
  | .dict _, _, h => nomatch h
theorem DaAll.dp : ∀ (ds : List PyData) (vs : List V), DaAll S H vs ds → DpAll K H vs ds
  | [], _, h => by cases h; exact .nil
  | d :: ds, _, h => by
    cases h with
    | cons a b => exact .cons (Da.dp d _ a) (DaAll.dp ds _ b)
end
theorem DaAll.snoc {vs : List V} {ds : List PyData} {v : V} {d : PyData} : DaAll S H vs ds → Da S H v d → DaAll S H (vs ++ [v]) (ds ++ [d]) := by
  induction vs generalizing ds with
  | nil => intro h z; cases h; exact .cons z .nil
  | cons x vs ih => intro h z; cases h with | cons a b => exact .cons a (ih b z)
theorem DaAll.length {vs : List V} {ds : List PyData} : DaAll S H vs ds → vs.length = ds.length := by
  induction vs generalizing ds with
  | nil => intro h; cases h; rfl
  | cons x vs ih => intro h; cases h with | cons a b => rw [List.length_cons, List.length_cons, ih b]
end
/-- data of at most n levels, with a text that is not long -/
structure Sm (n : Nat) (d : PyData) : Prop where
  sh : d.showable = true
  nd : d.hasDict = false
  dp : d.depth ≤ n
  ln : d.shown.length ≤ 30 * 4 ^ n
theorem Sm.up {n m : Nat} {d : PyData} (h : Sm n d) (l : n ≤ m) : Sm m d := ⟨h.sh, h.nd, Nat.le_trans h.dp l, Nat.le_trans h.ln (Nat.mul_le_mul_left _ (Nat.pow_le_pow_right (by decide) l))⟩
theorem sm_all {n : Nat} : ∀ {ds : List PyData}, (∀ d ∈ ds, Sm n d) → PyData.showableAll ds = true ∧ PyData.hasDictAll ds = false ∧ PyData.depthAll ds ≤ n ∧ (PyData.shownAll ds).length = ds.length ∧ ∀ t ∈ PyData.shownAll ds, t.length ≤ 30 * 4 ^ n
  | [], _ => ⟨rfl, rfl, Nat.zero_le _, rfl, fun _ h => nomatch h⟩
  | d :: ds, h => by
    obtain ⟨a1, a2, a3, a4, a5⟩ := sm_all (ds := ds) fun z hz => h z (List.mem_cons_of_mem _ hz)
    have s := h d (List.mem_cons_self ..)
    refine ⟨?_, ?_, ?_, ?_, ?_⟩
    · show (d.showable && PyData.showableAll ds) = true
      rw [s.sh, a1]
      rfl
    · show (d.hasDict || PyData.hasDictAll ds) = false
      rw [s.nd, a2]
      rfl
    · show max d.depth (PyData.depthAll ds) ≤ n
      have := s.dp
      omega
    · show (d.shown :: PyData.shownAll ds).length = _
      rw [List.length_cons, List.length_cons, a4]
    · intro t ht
      rcases List.mem_cons.mp ht with ht | ht
      · subst ht
        exact s.ln
      · exact a5 t ht
theorem textFrom_le {m : Nat} : ∀ (ts : List Str) (k : Nat) (acc : Str), (∀ t ∈ ts, t.length ≤ m) → (textFrom k acc ts).length ≤ acc.length + ts.length * (m + 2)
  | [], k, acc, _ => Nat.le_add_right _ _
  | t :: r, k, acc, h => by
    have ih := textFrom_le r (k + 1) (acc ++ (if k > 0 then ", " else "" : String) ++ t) fun z hz => h z (List.mem_cons_of_mem _ hz)
    have a := h t (List.mem_cons_self ..)
    show (textFrom (k + 1) (acc ++ (if k > 0 then ", " else "" : String) ++ t) r).length ≤ _
    have b : (Str.ofString (if k > 0 then ", " else "" : String)).length ≤ 2 := by split <;> decide
    have c : (acc ++ (if k > 0 then ", " else "" : String) ++ t : Str).length = acc.length + (Str.ofString (if k > 0 then ", " else "" : String)).length + t.length := by
      rw [Str.length_append, Str.length_append]
    rw [c] at ih
    rw [List.length_cons, Nat.succ_mul]
    omega
theorem join_le {m : Nat} : ∀ (ts : List Str), (∀ t ∈ ts, t.length ≤ m) → (Str.join ", " ts).length ≤ ts.length * (m + 2)
  | [], _ => Nat.zero_le _
  | [x], h => by
    have := h x (List.mem_cons_self ..)
    show x.length ≤ 1 * (m + 2)
    omega
  | x :: y :: r, h => by
    have ih := join_le (y :: r) fun z hz => h z (List.mem_cons_of_mem _ hz)
    have a := h x (List.mem_cons_self ..)
    show (x ++ (", " : Str) ++ Str.join ", " (y :: r)).length ≤ _
    have b : (Str.ofString ", ").length = 2 := by decide
    rw [Str.length_append, Str.length_append, List.length_cons, Nat.succ_mul]
    omega
theorem sm_list {n : Nat} {ds : List PyData} (h : ∀ d ∈ ds, Sm n d) (l : ds.length ≤ 3) : Sm (n + 1) (.list ds) := by
  obtain ⟨a1, a2, a3, a4, a5⟩ := sm_all h
  refine ⟨a1, a2, Nat.succ_le_succ a3, ?_⟩
  show (textFrom 0 "[" (PyData.shownAll ds) ++ ("]" : Str)).length ≤ _
  have b := textFrom_le (PyData.shownAll ds) 0 "[" a5
  have c1 : (Str.ofString "[").length = 1 := by decide
  have c2 : (Str.ofString "]").length = 1 := by decide
  rw [Str.length_append]
  have p : 1 ≤ 4 ^ n := Nat.pow_le_pow_right (show 0 < 4 by decide) (Nat.zero_le n)
  have q : (PyData.shownAll ds).length * (30 * 4 ^ n + 2) ≤ 3 * (30 * 4 ^ n + 2) := Nat.mul_le_mul_right _ (by omega)
  rw [Nat.pow_succ]
  omega
theorem sm_tuple {n : Nat} {ds : List PyData} (h : ∀ d ∈ ds, Sm n d) (l : ds.length ≤ 3) : Sm (n + 1) (.tuple ds) := by
  obtain ⟨a1, a2, a3, a4, a5⟩ := sm_all h
  refine ⟨a1, a2, Nat.succ_le_succ a3, ?_⟩
  show (("(" : Str) ++ Str.join ", " (PyData.shownAll ds) ++ (if (PyData.shownAll ds).length == 1 then ",)" else ")" : String)).length ≤ _
  have b := join_le (PyData.shownAll ds) a5
  have c1 : (Str.ofString "(").length = 1 := by decide
  have c2 : (Str.ofString (if (PyData.shownAll ds).length == 1 then ",)" else ")" : String)).length ≤ 2 := by split <;> decide
  rw [Str.length_append, Str.length_append]
  have p : 1 ≤ 4 ^ n := Nat.pow_le_pow_right (show 0 < 4 by decide) (Nat.zero_le n)
  have q : (PyData.shownAll ds).length * (30 * 4 ^ n + 2) ≤ 3 * (30 * 4 ^ n + 2) := Nat.mul_le_mul_right _ (by omega)
  rw [Nat.pow_succ]
  omega
theorem sm_leaf {n : Nat} {d : PyData} (h1 : d.showable = true) (h2 : d.hasDict = false) (h3 : d.depth ≤ 1) (h4 : d.shown.length ≤ 120) : Sm (n + 1) d := Sm.up (n := 1) ⟨h1, h2, h3, h4⟩ (by omega)

end
end K01
namespace K01
open PySem PySem.Spec PyProof.Rows L2 Rs
local macro_rules | `(tactic| walk_at "om") => `(tactic| first | omega | (dsimp only; omega))
local macro_rules | `(tactic| walk_at "side") => `(tactic| first | omega | (dsimp only; omega) | decide | (unfold CMul; omega) | (unfold CDiv; omega) | (unfold CPow; omega) | exact wide_div (b := 64) (by omega) (by omega) (by decide) (by decide))
local macro_rules | `(tactic| walk_at "hp") => `(tactic| first | assumption | exact upd_same)
local macro_rules | `(tactic| walk_at "sq") => `(tactic| first | assumption | exact SqL.of (by assumption) | exact SqL.of upd_same)
local macro_rules | `(tactic| walk_at "st") => `(tactic| first
  | refine ⟨_, rfl, ?_⟩
  | (refine ⟨_, _, rfl, rfl, And.intro ?side ?_⟩; (case side => walk_at "side"))
  | refine ⟨_, _, rfl, rfl, ?_⟩
  | (refine' ⟨_, _, _, _, rfl, rfl, SqL.of ?hp, ?atx, ?_⟩; (case hp => walk_at "hp"); (case atx => exact rfl))
  | (refine' ⟨_, _, _, _, rfl, rfl, ?hp, ?atx, ?_⟩; (case hp => walk_at "hp"); (case atx => exact rfl))
  | (refine' ⟨_, _, rfl, Or.inl ?sq, ?_⟩; (case sq => walk_at "sq"))
  | refine Or.inl ⟨_, rfl, ?_⟩
  | refine Or.inr ⟨_, rfl, ?_⟩)
local macro_rules | `(tactic| walk_at "evd") => `(tactic| first
  | exact evd_int
  | exact evd_str
  | exact evd_non
  | exact evd_bl
  | exact evd_nil
  | (refine evd_cons ?_ (fun _ => ?_) <;> walk_at "evd")
  | (refine evd_tup ?_ (Nat.le_of_ble_eq_true rfl); walk_at "evd"))

section
variable {P : Program} {w : World} {K : PySem.W.Frag} {mg : Str → Option Value} {base : Heap}
def spAny (n : Nat) : Sp := fun vs H Q _ => ∃ (b : Addr), vs = [.ref b, .int n] ∧ Box H b ∧ ∀ (v : V) (d : PyData) (H' : Hp), Da (fun a => H a ≠ none) H' v d → Sm (n + 1) d → Box H' b → But b H H' → Q v H'
theorem none_ok {f : Addr} {fd : FuncData} {ps : List Str} {k : Nat} : FnOk P w K mg base CX0 k f fd ps (fun _ _ _ _ => False) := ⟨fun _ _ _ _ h => h.elim, fun _ _ _ _ _ _ _ _ _ _ _ _ _ h => h.elim⟩
theorem box_some {H : Hp} {b : Addr} (B : Box H b) : H b ≠ none := by
  obtain ⟨x, y, z, h, _⟩ := B
  intro e
  rw [e] at h
  cases h
/-- what stood before, b aside, stands still -/
theorem Da.but {S S' : Addr → Prop} {b : Addr} {H H' : Hp} {v : V} {d : PyData} (h : Da S H v d) (B : Box H b) (k : But b H H') (sb : S b) (hS : ∀ a, S' a → S a) : Da S' H' v d :=
  Da.mono hS (fun a xs n e => k _ _ (fun z => n (by rw [z]; exact sb)) e) (fun a xs e => B.fz k _ _ trivial e) d v h
theorem any_step (T : Txt K mg) (d k : Nat) (hk : 2 ≤ k) (sp : Sp) (G__law_any : FnOk P w K mg base CX0 k T.a__law_any T.d__law_any ["_law_box_here", "_law_deep"] sp)
    (hsp : ∀ d', d = d' + 1 → sp = spAny d') : FnOk P w K mg base CX0 (k + 1) T.a__law_any T.d__law_any ["_law_box_here", "_law_deep"] (spAny d) := by
  have G__law_take : FnOk P w K mg base CX0 1 T.a__law_take T.d__law_take ["_law_box_here", "_law_many"] spTake := ok_take T
  have G__law_pick : FnOk P w K mg base CX0 2 T.a__law_pick T.d__law_pick ["_law_box_here", "_law_some"] spPick := ok_pick T
  refine T.F__law_any.ok sc__law_any (fun vs H Q E h => ?_) (fun cdv A outer s H vs Q E hr h => ?_)
  · obtain ⟨b, rfl, _⟩ := h
    rfl
  · obtain ⟨b, rfl, hB, k⟩ := h
    have nd := sc__law_any.nd
    have hr2 : Room 2 _ := hr.mono hk
    refine ⟨_, (pss_cons (ps_set (i := 2) nd rfl (Or.inl rfl) (pe_call G__law_take (hr.mono (by first | decide | omega)) (by rfl) T.m__law_take T.k__law_take T.b__law_take .nil pass0 (pa_cons (pv 0) (pa_cons pe_int pa_nil))))
    (pss_cons (ps_if (PW.pt (pw_and (pt_cmpR op_lt (pv 2) pe_int (nomark _)) (pw_and1 (pt_cmpR op_gt (pv 1) pe_int (nomark _))))) (pss_cons (ps_setLc (i := 3) (own := [("_law_k", 4)]) (g := (gName 4)) (by rfl) nd rfl rfl (sw_true rfl rfl rfl (by decide +kernel)) (pi_range1 (by rfl) T.z_range (pa_cons (pe_call G__law_take (hr.mono (by first | decide | omega)) (by rfl) T.m__law_take T.k__law_take T.b__law_take .nil pass0 (pa_cons (pv 0) (pa_cons pe_int pa_nil))) pa_nil)) (blkOk_by (N := ["_law_box_here", "_law_deep", "_law_form", "_law_some", "_law_k", "_law_words", "_law_plain"]) (sc := defScope s__law_any) (own := [("_law_k", 4)]) (by decide +kernel)) (fun _ _ _ _ _ => by exact (pg_name (i := 4) nd rfl (Or.inl rfl))) (fun _ _ _ _ _ => by exact pts_nil) (fun _ _ _ _ _ => by exact (pe_call G__law_any (hr.mono (by first | decide | omega)) (by rfl) T.m__law_any T.k__law_any T.b__law_any .nil pass0 (pa_cons (pv 0) (pa_cons (pe_op op_sub (pv 1) pe_int) pa_nil)))))
    (pss_one (ps_ret (pe_ifExp (pt_cmpR op_lt (pv 2) pe_int (nomark _)) (pv 3) (pe_callTy call_tuple_of (by rfl) T.z_tuple (by decide +kernel) (pa_cons (pv 3) pa_nil)))))) pss_nil)
    (pss_cons (ps_set (i := 5) nd rfl (Or.inl rfl) (pe_lst (pa_cons pe_str (pa_cons pe_str (pa_cons pe_str (pa_cons pe_str (pa_cons pe_str (pa_cons pe_str (pa_cons pe_str (pa_cons pe_str (pa_cons pe_str (pa_cons pe_str (pa_cons pe_str (pa_cons pe_str (pa_cons pe_str (pa_cons pe_str (pa_cons pe_str pa_nil)))))))))))))))))
    (pss_cons (ps_set (i := 6) nd rfl (Or.inl rfl) (pe_lst (pa_cons pe_non (pa_cons pe_bl (pa_cons pe_bl (pa_cons pe_int (pa_cons pe_int (pa_cons pe_int (pa_cons (pe_op op_sub pe_int pe_int) (pa_cons (pe_op op_sub (pe_op op_pow pe_int pe_int) pe_int) (pa_cons (pe_lst (pa_cons pe_str pa_nil)) (pa_cons (pe_tup (pa_cons pe_int (pa_cons pe_int pa_nil))) (pa_cons pe_int pa_nil)))))))))))))
    (pss_one (ps_ret (pe_ifExp (pt_cmpR op_lt (pv 2) pe_int (nomark _)) (pe_call G__law_pick (hr.mono (by first | decide | omega)) (by rfl) T.m__law_pick T.k__law_pick T.b__law_pick .nil pass0 (pa_cons (pv 0) (pa_cons (pv 5) pa_nil))) (pe_call G__law_pick (hr.mono (by first | decide | omega)) (by rfl) T.m__law_pick T.k__law_pick T.b__law_pick .nil pass0 (pa_cons (pv 0) (pa_cons (pv 6) pa_nil)))))))))), ?_⟩
    refine ⟨_, rfl, b, 14, rfl, hB, by decide, by decide, fun r H1 r0 r1 B1 k1 => ?_⟩
    refine ⟨_, rfl, _, _, rfl, rfl, _, rfl, ifB (fun e1 => ⟨_, rfl, _, _, rfl, rfl, _, rfl, ifB (fun e2 => ?rec) (fun _ => ?t1)⟩) (fun _ => ?t2)⟩
    case rec =>
        have e2 := of_decide_eq_true e2
        obtain ⟨d', rfl⟩ : ∃ d', d = d' + 1 := ⟨d - 1, by omega⟩
        have esp := hsp d' rfl
        subst esp
        refine ⟨_, rfl, b, 3, rfl, B1, by decide, by decide, fun m H2 m0 m1 B2 k2 => ?_⟩
        have k12 := k1.trans k2
        refine ⟨m, rfl, by omega, by omega, fun D hD => lc_range (fun i H3 => ∃ acc ds, H3 D = some (.lst acc) ∧ acc.length = i ∧ DaAll (fun a => a = D ∨ H a ≠ none) H3 acc ds ∧ (∀ x ∈ ds, Sm (d' + 1) x) ∧ Box H3 b ∧ But b H2 H3)
          ⟨[], [], upd_same, rfl, .nil, (fun x h => nomatch h), B2.same (same_new hD), But.of_same (same_new hD)⟩ (fun i H3 hi hP => ?_) (fun H3 hP => ?_)⟩
        · obtain ⟨acc, ds, hA, hl, hacc, hds, B3, k3⟩ := hP
          have neD := B2.ne_none hD
          have bS : H b ≠ none := box_some hB
          refine ⟨rfl, _, rfl, _, rfl, _, _, rfl, rfl, b, ?_, B3, fun v dd H4 hv hm B4 k4 => ?_⟩
          · show [V.ref b, V.int (((d' + 1 : Nat) : Int) - 1)] = [V.ref b, V.int (d' : Nat)]
            rw [show (((d' + 1 : Nat) : Int) - 1) = (d' : Nat) by omega]
          have hA4 := k4 _ _ neD hA
          have old : ∀ a, (a = D ∨ H a ≠ none) → H3 a ≠ none := fun a h => by
            rcases h with h | h
            · subst h
              rw [hA]
              exact fun z => nomatch z
            · intro z
              cases e : H a with
              | none => exact h e
              | some o =>
                by_cases c : a = b
                · subst c
                  exact box_some B3 z
                · rw [(k12.trans k3) _ _ c e] at z
                  cases z
          have setD : ∀ {x dx}, Da (fun a => a = D ∨ H a ≠ none) H4 x dx → Da (fun a => a = D ∨ H a ≠ none) (upd H4 D (.lst (acc ++ [v]))) x dx := fun {x dx} h =>
            Da.mono (fun _ z => z) (fun a xs n e => by rw [upd_ne (fun z => n (.inl z))]; exact e) (fun a xs e => by rw [upd_ne (fun z => by rw [z, hA4] at e; cases e)]; exact e) _ _ h
          have setA : ∀ {xs dxs}, DaAll (fun a => a = D ∨ H a ≠ none) H4 xs dxs → DaAll (fun a => a = D ∨ H a ≠ none) (upd H4 D (.lst (acc ++ [v]))) xs dxs := fun {xs dxs} h =>
            DaAll.mono (fun _ z => z) (fun a xs n e => by rw [upd_ne (fun z => n (.inl z))]; exact e) (fun a xs e => by rw [upd_ne (fun z => by rw [z, hA4] at e; cases e)]; exact e) _ _ h
          have hacc4 : DaAll (fun a => a = D ∨ H a ≠ none) H4 acc ds := DaAll.mono (fun _ z => z) (fun a xs n e => k4 _ _ (fun z => n (.inr (by rw [z]; exact bS))) e) (fun a xs e => B3.fz k4 _ _ trivial e) _ _ hacc
          have hv4 : Da (fun a => a = D ∨ H a ≠ none) H4 v dd := Da.mono old (fun _ _ _ e => e) (fun _ _ e => e) _ _ hv
          refine ⟨acc, hA4, szl (by omega), acc ++ [v], ds ++ [dd], upd_same, by rw [List.length_append, hl]; rfl, (setA hacc4).snoc (setD hv4), fun x hx => ?_, box_ne B4 neD, but_new (k3.trans k4) hD⟩
          rcases List.mem_append.mp hx with h | h
          · exact hds x h
          · rw [List.mem_singleton] at h
            subst h
            exact hm
        · obtain ⟨acc, ds, hA, hl, hacc, hds, B3, k3⟩ := hP
          have neD := B2.ne_none hD
          have kk := k12.trans k3
          have HD : ¬ (H D ≠ none) := fun z => z (k12.free neD hD)
          have ll := hacc.length
          have hacc0 : DaAll (fun a => H a ≠ none) H3 acc ds := DaAll.mono (fun _ z => .inr z) (fun _ _ _ e => e) (fun _ _ e => e) _ _ hacc
          refine ⟨_, rfl, _, _, rfl, rfl, _, rfl, ifB (fun e3 => ?_) (fun e3 => ?_)⟩
          · exact ⟨_, rfl, k _ _ _ (.lst HD hA hacc0) (sm_list hds (by omega)) B3 kk⟩
          · refine ⟨_, rfl, D, acc, rfl, .inl ⟨SqL.of hA, fun l hl' => ?_⟩⟩
            have sl := same_new (o := .tup acc) hl'
            exact k _ _ _ (.tup upd_same (DaAll.mono (fun _ z => z) (fun _ _ _ e => sl _ _ e) (fun _ _ e => sl _ _ e) _ _ hacc0)) (sm_tuple hds (by omega)) (B3.same sl) (kk.trans (But.of_same sl))
    all_goals
      refine ⟨szL (Nat.le_of_ble_eq_true rfl), fun W nW => ?_⟩
      have BW := B1.same (same_new (o := .lst [.str "", .str "up", .str "+", .str "add", .str "n", .str "n-1", .str "lost", .str "lacking", .str "0", .str "-", .str "put", .str "rounds n", .str "down", .str "\n", .str "(n)/2"]) nW)
      repeat walk_at "st"
      refine fun p1 np1 => ?_
      have B2 := BW.same (same_new (o := .lst [.str "n"]) np1)
      repeat walk_at "st"
      refine ⟨szL (Nat.le_of_ble_eq_true rfl), fun p2 np2 => ?_⟩
      have B3 := B2.same (same_new (o := .tup [.int 1, .int 2]) np2)
      repeat walk_at "st"
      refine ⟨szL (Nat.le_of_ble_eq_true rfl), fun p3 np3 => ?_⟩
      have B4 := B3.same (same_new (o := .lst [.non, .bl true, .bl false, .int 0, .int 1, .int 2, .int (0 - 1), .int (10 ^ 9 - 1), .ref p1, .ref p2, .int 4]) np3)
      have kk := ((k1.trans (But.of_same (same_new (o := .lst [.str "", .str "up", .str "+", .str "add", .str "n", .str "n-1", .str "lost", .str "lacking", .str "0", .str "-", .str "put", .str "rounds n", .str "down", .str "\n", .str "(n)/2"]) nW))).trans (But.of_same (same_new (o := .lst [.str "n"]) np1))).trans ((But.of_same (same_new (o := .tup [.int 1, .int 2]) np2)).trans (But.of_same (same_new (o := .lst [.non, .bl true, .bl false, .int 0, .int 1, .int 2, .int (0 - 1), .int (10 ^ 9 - 1), .ref p1, .ref p2, .int 4]) np3)))
      have w1 : W ≠ b := B1.ne_none nW
      have p1b : p1 ≠ b := BW.ne_none np1
      have p2b : p2 ≠ b := B2.ne_none np2
      have p3b : p3 ≠ b := B3.ne_none np3
      refine ⟨_, rfl, _, _, rfl, rfl, _, rfl, ifB (fun _ => ?_) (fun _ => ?_)⟩
      · refine' ⟨_, rfl, _, rfl, b, W, _, rfl, B4, w1, ?hW, ?l0, ?l1, fun v H5 hv B5 k5 => ?fin⟩
        case hW =>
          rw [upd_ne (ne_of_none (by rw [upd_ne (ne_of_none (by rw [upd_ne (ne_of_none upd_same np1)]; exact upd_same) np2), upd_ne (ne_of_none upd_same np1)]; exact upd_same) np3), upd_ne (ne_of_none (by rw [upd_ne (ne_of_none upd_same np1)]; exact upd_same) np2), upd_ne (ne_of_none upd_same np1)]
          exact upd_same
        case l0 => simp
        case l1 => simp
        case fin =>
          simp only [List.mem_cons, List.not_mem_nil, or_false] at hv
          rcases hv with h | h | h | h | h | h | h | h | h | h | h | h | h | h | h <;> (subst h; exact k _ _ H5 (.str _) (sm_leaf rfl rfl (by decide +kernel) (by decide +kernel)) B5 (kk.trans k5))
      · refine ⟨_, rfl, _, rfl, b, p3, _, rfl, B4, p3b, upd_same, by simp, by simp, fun v H5 hv B5 k5 => ?_⟩
        have n1 : ¬ (H p1 ≠ none) := fun z => z ((k1.trans (But.of_same (same_new nW))).free p1b np1)
        simp only [List.mem_cons, List.not_mem_nil, or_false] at hv
        rcases hv with h | h | h | h | h | h | h | h | h | h | h
        case' inr.inr.inr.inr.inr.inr.inr.inr.inl =>
          subst h
          refine k _ (.list [.str "n"]) H5 (.lst n1 (k5 _ _ p1b ?_) (.cons (.str _) .nil)) (sm_leaf (by decide +kernel) (by decide +kernel) (by decide +kernel) (by decide +kernel)) B5 (kk.trans k5)
          rw [upd_ne (ne_of_none (by rw [upd_ne (ne_of_none upd_same np2)]; exact upd_same) np3), upd_ne (ne_of_none upd_same np2)]
          exact upd_same
        case' inr.inr.inr.inr.inr.inr.inr.inr.inr.inl =>
          subst h
          refine k _ (.tuple [.int 1, .int 2]) H5 (.tup (k5 _ _ p2b ?_) (.cons (.int _) (.cons (.int _) .nil))) (sm_leaf (by decide +kernel) (by decide +kernel) (by decide +kernel) (by decide +kernel)) B5 (kk.trans k5)
          rw [upd_ne (ne_of_none upd_same np3)]
          exact upd_same
        all_goals
          subst h
          first
            | exact k _ _ H5 .non (sm_leaf rfl rfl (by decide +kernel) (by decide +kernel)) B5 (kk.trans k5)
            | exact k _ _ H5 (.bl _) (sm_leaf rfl rfl (by decide +kernel) (by decide +kernel)) B5 (kk.trans k5)
            | exact k _ _ H5 (.int _) (sm_leaf (by decide +kernel) rfl (by decide +kernel) (by decide +kernel)) B5 (kk.trans k5)
theorem ok_any (T : Txt K mg) : ∀ d : Nat, FnOk P w K mg base CX0 (3 + d) T.a__law_any T.d__law_any ["_law_box_here", "_law_deep"] (spAny d)
  | 0 => any_step T 0 2 (Nat.le_refl _) _ none_ok (fun d' h => by omega)
  | d + 1 => any_step T (d + 1) (3 + d) (by omega) (spAny d) (ok_any T d) (fun d' h => by rw [show d' = d by omega])

end
end K01
namespace K01
open PySem PySem.Spec PyProof.Rows L2 Rs
local macro_rules | `(tactic| walk_at "om") => `(tactic| first | omega | (dsimp only; omega))
local macro_rules | `(tactic| walk_at "side") => `(tactic| first | omega | (dsimp only; omega) | decide | (unfold CMul; omega) | (unfold CDiv; omega) | (unfold CPow; omega) | exact wide_div (b := 64) (by omega) (by omega) (by decide) (by decide))
local macro_rules | `(tactic| walk_at "hp") => `(tactic| first | assumption | exact upd_same)
local macro_rules | `(tactic| walk_at "sq") => `(tactic| first | assumption | exact SqL.of (by assumption) | exact SqL.of upd_same)
local macro_rules | `(tactic| walk_at "st") => `(tactic| first
  | refine ⟨_, rfl, ?_⟩
  | (refine ⟨_, _, rfl, rfl, And.intro ?side ?_⟩; (case side => walk_at "side"))
  | refine ⟨_, _, rfl, rfl, ?_⟩
  | (refine' ⟨_, _, _, _, rfl, rfl, SqL.of ?hp, ?atx, ?_⟩; (case hp => walk_at "hp"); (case atx => exact rfl))
  | (refine' ⟨_, _, _, _, rfl, rfl, ?hp, ?atx, ?_⟩; (case hp => walk_at "hp"); (case atx => exact rfl))
  | (refine' ⟨_, _, rfl, Or.inl ?sq, ?_⟩; (case sq => walk_at "sq"))
  | refine Or.inl ⟨_, rfl, ?_⟩
  | refine Or.inr ⟨_, rfl, ?_⟩)
local macro_rules | `(tactic| walk_at "evd") => `(tactic| first
  | exact evd_int
  | exact evd_str
  | exact evd_non
  | exact evd_bl
  | exact evd_nil
  | (refine evd_cons ?_ (fun _ => ?_) <;> walk_at "evd")
  | (refine evd_tup ?_ (Nat.le_of_ble_eq_true rfl); walk_at "evd"))

section
variable {P : Program} {w : World} {K : PySem.W.Frag} {mg : Str → Option Value} {base : Heap}
/-- the classes by their numbers -/
def cl (T : Txt K mg) : Nat → Addr
  | 0 => T.c_InvalidText
  | 1 => T.c_InvalidRows
  | 2 => T.c_Refused
  | 3 => T.c_NoBlock
  | 4 => T.c_InvalidForm
  | 5 => T.c_InvalidLane
  | 6 => T.c_InvalidBlock
  | 7 => T.c_InvalidSlip
  | 8 => T.c_InvalidCalendar
  | 9 => T.c_InvalidPlan
  | 10 => T.c_InvalidFault
  | _ => T.c_InvalidCommand
def fld (i : Nat) : Str := if i < 4 then "at" else "word"
def kept (i : Nat) (v : V) : Option (Str × V) := if i < 9 then some (fld i, v) else none
theorem ok_exc0 (T : Txt K mg) : FnOk P w K mg base CX0 1 T.a_InvalidText___init__ T.d_InvalidText___init__ ["self", "at"] (spExc T.c_InvalidText "at") := by
  refine T.F_InvalidText___init__.ok sc_InvalidText___init__ (fun vs H Q E h => ?_) (fun cdv A outer s H vs Q E hr h => ?_)
  · obtain ⟨a, v, rfl, _⟩ := h
    rfl
  · obtain ⟨a, v, rfl, ha, k⟩ := h
    refine ⟨_, pss_one (ps_ost (pv 0) (pv 1)), ?_⟩
    exact ⟨_, rfl, _, rfl, a, T.c_InvalidText, rfl, T.x_InvalidText, T.n_InvalidText, .inl ⟨ha, fun dx hd ne => k dx hd ne⟩⟩
theorem ok_exc1 (T : Txt K mg) : FnOk P w K mg base CX0 1 T.a_InvalidRows___init__ T.d_InvalidRows___init__ ["self", "at"] (spExc T.c_InvalidRows "at") := by
  refine T.F_InvalidRows___init__.ok sc_InvalidRows___init__ (fun vs H Q E h => ?_) (fun cdv A outer s H vs Q E hr h => ?_)
  · obtain ⟨a, v, rfl, _⟩ := h
    rfl
  · obtain ⟨a, v, rfl, ha, k⟩ := h
    refine ⟨_, pss_one (ps_ost (pv 0) (pv 1)), ?_⟩
    exact ⟨_, rfl, _, rfl, a, T.c_InvalidRows, rfl, T.x_InvalidRows, T.n_InvalidRows, .inl ⟨ha, fun dx hd ne => k dx hd ne⟩⟩
theorem ok_exc2 (T : Txt K mg) : FnOk P w K mg base CX0 1 T.a_Refused___init__ T.d_Refused___init__ ["self", "at"] (spExc T.c_Refused "at") := by
  refine T.F_Refused___init__.ok sc_Refused___init__ (fun vs H Q E h => ?_) (fun cdv A outer s H vs Q E hr h => ?_)
  · obtain ⟨a, v, rfl, _⟩ := h
    rfl
  · obtain ⟨a, v, rfl, ha, k⟩ := h
    refine ⟨_, pss_one (ps_ost (pv 0) (pv 1)), ?_⟩
    exact ⟨_, rfl, _, rfl, a, T.c_Refused, rfl, T.x_Refused, T.n_Refused, .inl ⟨ha, fun dx hd ne => k dx hd ne⟩⟩
theorem ok_exc3 (T : Txt K mg) : FnOk P w K mg base CX0 1 T.a_NoBlock___init__ T.d_NoBlock___init__ ["self", "at"] (spExc T.c_NoBlock "at") := by
  refine T.F_NoBlock___init__.ok sc_NoBlock___init__ (fun vs H Q E h => ?_) (fun cdv A outer s H vs Q E hr h => ?_)
  · obtain ⟨a, v, rfl, _⟩ := h
    rfl
  · obtain ⟨a, v, rfl, ha, k⟩ := h
    refine ⟨_, pss_one (ps_osi (pv 0) (pv 1)), ?_⟩
    exact ⟨_, rfl, _, rfl, a, T.c_NoBlock, rfl, T.x_NoBlock, T.n_NoBlock, ha, fun dx hd ne => k dx hd ne⟩
theorem ok_exc4 (T : Txt K mg) : FnOk P w K mg base CX0 1 T.a_InvalidForm___init__ T.d_InvalidForm___init__ ["self", "word"] (spExc T.c_InvalidForm "word") := by
  refine T.F_InvalidForm___init__.ok sc_InvalidForm___init__ (fun vs H Q E h => ?_) (fun cdv A outer s H vs Q E hr h => ?_)
  · obtain ⟨a, v, rfl, _⟩ := h
    rfl
  · obtain ⟨a, v, rfl, ha, k⟩ := h
    refine ⟨_, pss_one (ps_ost (pv 0) (pv 1)), ?_⟩
    exact ⟨_, rfl, _, rfl, a, T.c_InvalidForm, rfl, T.x_InvalidForm, T.n_InvalidForm, .inl ⟨ha, fun dx hd ne => k dx hd ne⟩⟩
theorem ok_exc5 (T : Txt K mg) : FnOk P w K mg base CX0 1 T.a_InvalidLane___init__ T.d_InvalidLane___init__ ["self", "word"] (spExc T.c_InvalidLane "word") := by
  refine T.F_InvalidLane___init__.ok sc_InvalidLane___init__ (fun vs H Q E h => ?_) (fun cdv A outer s H vs Q E hr h => ?_)
  · obtain ⟨a, v, rfl, _⟩ := h
    rfl
  · obtain ⟨a, v, rfl, ha, k⟩ := h
    refine ⟨_, pss_one (ps_ost (pv 0) (pv 1)), ?_⟩
    exact ⟨_, rfl, _, rfl, a, T.c_InvalidLane, rfl, T.x_InvalidLane, T.n_InvalidLane, .inl ⟨ha, fun dx hd ne => k dx hd ne⟩⟩
theorem ok_exc6 (T : Txt K mg) : FnOk P w K mg base CX0 1 T.a_InvalidBlock___init__ T.d_InvalidBlock___init__ ["self", "word"] (spExc T.c_InvalidBlock "word") := by
  refine T.F_InvalidBlock___init__.ok sc_InvalidBlock___init__ (fun vs H Q E h => ?_) (fun cdv A outer s H vs Q E hr h => ?_)
  · obtain ⟨a, v, rfl, _⟩ := h
    rfl
  · obtain ⟨a, v, rfl, ha, k⟩ := h
    refine ⟨_, pss_one (ps_ost (pv 0) (pv 1)), ?_⟩
    exact ⟨_, rfl, _, rfl, a, T.c_InvalidBlock, rfl, T.x_InvalidBlock, T.n_InvalidBlock, .inl ⟨ha, fun dx hd ne => k dx hd ne⟩⟩
theorem ok_exc7 (T : Txt K mg) : FnOk P w K mg base CX0 1 T.a_InvalidSlip___init__ T.d_InvalidSlip___init__ ["self", "word"] (spExc T.c_InvalidSlip "word") := by
  refine T.F_InvalidSlip___init__.ok sc_InvalidSlip___init__ (fun vs H Q E h => ?_) (fun cdv A outer s H vs Q E hr h => ?_)
  · obtain ⟨a, v, rfl, _⟩ := h
    rfl
  · obtain ⟨a, v, rfl, ha, k⟩ := h
    refine ⟨_, pss_one (ps_ost (pv 0) (pv 1)), ?_⟩
    exact ⟨_, rfl, _, rfl, a, T.c_InvalidSlip, rfl, T.x_InvalidSlip, T.n_InvalidSlip, .inl ⟨ha, fun dx hd ne => k dx hd ne⟩⟩
theorem ok_exc8 (T : Txt K mg) : FnOk P w K mg base CX0 1 T.a_InvalidCalendar___init__ T.d_InvalidCalendar___init__ ["self", "word"] (spExc T.c_InvalidCalendar "word") := by
  refine T.F_InvalidCalendar___init__.ok sc_InvalidCalendar___init__ (fun vs H Q E h => ?_) (fun cdv A outer s H vs Q E hr h => ?_)
  · obtain ⟨a, v, rfl, _⟩ := h
    rfl
  · obtain ⟨a, v, rfl, ha, k⟩ := h
    refine ⟨_, pss_one (ps_ost (pv 0) (pv 1)), ?_⟩
    exact ⟨_, rfl, _, rfl, a, T.c_InvalidCalendar, rfl, T.x_InvalidCalendar, T.n_InvalidCalendar, .inl ⟨ha, fun dx hd ne => k dx hd ne⟩⟩
theorem kit0 (T : Txt K mg) : ∀ j, j < 12 → PySem.W.kitOne K (.ref T.c_InvalidText) (.ref (cl T j)) = some (decide (0 = j))
  | 0, _ => T.kit_InvalidText_InvalidText
  | 1, _ => T.kit_InvalidText_InvalidRows
  | 2, _ => T.kit_InvalidText_Refused
  | 3, _ => T.kit_InvalidText_NoBlock
  | 4, _ => T.kit_InvalidText_InvalidForm
  | 5, _ => T.kit_InvalidText_InvalidLane
  | 6, _ => T.kit_InvalidText_InvalidBlock
  | 7, _ => T.kit_InvalidText_InvalidSlip
  | 8, _ => T.kit_InvalidText_InvalidCalendar
  | 9, _ => T.kit_InvalidText_InvalidPlan
  | 10, _ => T.kit_InvalidText_InvalidFault
  | 11, _ => T.kit_InvalidText_InvalidCommand
  | n + 12, h => absurd h (by omega)
theorem kit1 (T : Txt K mg) : ∀ j, j < 12 → PySem.W.kitOne K (.ref T.c_InvalidRows) (.ref (cl T j)) = some (decide (1 = j))
  | 0, _ => T.kit_InvalidRows_InvalidText
  | 1, _ => T.kit_InvalidRows_InvalidRows
  | 2, _ => T.kit_InvalidRows_Refused
  | 3, _ => T.kit_InvalidRows_NoBlock
  | 4, _ => T.kit_InvalidRows_InvalidForm
  | 5, _ => T.kit_InvalidRows_InvalidLane
  | 6, _ => T.kit_InvalidRows_InvalidBlock
  | 7, _ => T.kit_InvalidRows_InvalidSlip
  | 8, _ => T.kit_InvalidRows_InvalidCalendar
  | 9, _ => T.kit_InvalidRows_InvalidPlan
  | 10, _ => T.kit_InvalidRows_InvalidFault
  | 11, _ => T.kit_InvalidRows_InvalidCommand
  | n + 12, h => absurd h (by omega)
theorem kit2 (T : Txt K mg) : ∀ j, j < 12 → PySem.W.kitOne K (.ref T.c_Refused) (.ref (cl T j)) = some (decide (2 = j))
  | 0, _ => T.kit_Refused_InvalidText
  | 1, _ => T.kit_Refused_InvalidRows
  | 2, _ => T.kit_Refused_Refused
  | 3, _ => T.kit_Refused_NoBlock
  | 4, _ => T.kit_Refused_InvalidForm
  | 5, _ => T.kit_Refused_InvalidLane
  | 6, _ => T.kit_Refused_InvalidBlock
  | 7, _ => T.kit_Refused_InvalidSlip
  | 8, _ => T.kit_Refused_InvalidCalendar
  | 9, _ => T.kit_Refused_InvalidPlan
  | 10, _ => T.kit_Refused_InvalidFault
  | 11, _ => T.kit_Refused_InvalidCommand
  | n + 12, h => absurd h (by omega)
theorem kit3 (T : Txt K mg) : ∀ j, j < 12 → PySem.W.kitOne K (.ref T.c_NoBlock) (.ref (cl T j)) = some (decide (3 = j))
  | 0, _ => T.kit_NoBlock_InvalidText
  | 1, _ => T.kit_NoBlock_InvalidRows
  | 2, _ => T.kit_NoBlock_Refused
  | 3, _ => T.kit_NoBlock_NoBlock
  | 4, _ => T.kit_NoBlock_InvalidForm
  | 5, _ => T.kit_NoBlock_InvalidLane
  | 6, _ => T.kit_NoBlock_InvalidBlock
  | 7, _ => T.kit_NoBlock_InvalidSlip
  | 8, _ => T.kit_NoBlock_InvalidCalendar
  | 9, _ => T.kit_NoBlock_InvalidPlan
  | 10, _ => T.kit_NoBlock_InvalidFault
  | 11, _ => T.kit_NoBlock_InvalidCommand
  | n + 12, h => absurd h (by omega)
theorem kit4 (T : Txt K mg) : ∀ j, j < 12 → PySem.W.kitOne K (.ref T.c_InvalidForm) (.ref (cl T j)) = some (decide (4 = j))
  | 0, _ => T.kit_InvalidForm_InvalidText
  | 1, _ => T.kit_InvalidForm_InvalidRows
  | 2, _ => T.kit_InvalidForm_Refused
  | 3, _ => T.kit_InvalidForm_NoBlock
  | 4, _ => T.kit_InvalidForm_InvalidForm
  | 5, _ => T.kit_InvalidForm_InvalidLane
  | 6, _ => T.kit_InvalidForm_InvalidBlock
  | 7, _ => T.kit_InvalidForm_InvalidSlip
  | 8, _ => T.kit_InvalidForm_InvalidCalendar
  | 9, _ => T.kit_InvalidForm_InvalidPlan
  | 10, _ => T.kit_InvalidForm_InvalidFault
  | 11, _ => T.kit_InvalidForm_InvalidCommand
  | n + 12, h => absurd h (by omega)
theorem kit5 (T : Txt K mg) : ∀ j, j < 12 → PySem.W.kitOne K (.ref T.c_InvalidLane) (.ref (cl T j)) = some (decide (5 = j))
  | 0, _ => T.kit_InvalidLane_InvalidText
  | 1, _ => T.kit_InvalidLane_InvalidRows
  | 2, _ => T.kit_InvalidLane_Refused
  | 3, _ => T.kit_InvalidLane_NoBlock
  | 4, _ => T.kit_InvalidLane_InvalidForm
  | 5, _ => T.kit_InvalidLane_InvalidLane
  | 6, _ => T.kit_InvalidLane_InvalidBlock
  | 7, _ => T.kit_InvalidLane_InvalidSlip
  | 8, _ => T.kit_InvalidLane_InvalidCalendar
  | 9, _ => T.kit_InvalidLane_InvalidPlan
  | 10, _ => T.kit_InvalidLane_InvalidFault
  | 11, _ => T.kit_InvalidLane_InvalidCommand
  | n + 12, h => absurd h (by omega)
theorem kit6 (T : Txt K mg) : ∀ j, j < 12 → PySem.W.kitOne K (.ref T.c_InvalidBlock) (.ref (cl T j)) = some (decide (6 = j))
  | 0, _ => T.kit_InvalidBlock_InvalidText
  | 1, _ => T.kit_InvalidBlock_InvalidRows
  | 2, _ => T.kit_InvalidBlock_Refused
  | 3, _ => T.kit_InvalidBlock_NoBlock
  | 4, _ => T.kit_InvalidBlock_InvalidForm
  | 5, _ => T.kit_InvalidBlock_InvalidLane
  | 6, _ => T.kit_InvalidBlock_InvalidBlock
  | 7, _ => T.kit_InvalidBlock_InvalidSlip
  | 8, _ => T.kit_InvalidBlock_InvalidCalendar
  | 9, _ => T.kit_InvalidBlock_InvalidPlan
  | 10, _ => T.kit_InvalidBlock_InvalidFault
  | 11, _ => T.kit_InvalidBlock_InvalidCommand
  | n + 12, h => absurd h (by omega)
theorem kit7 (T : Txt K mg) : ∀ j, j < 12 → PySem.W.kitOne K (.ref T.c_InvalidSlip) (.ref (cl T j)) = some (decide (7 = j))
  | 0, _ => T.kit_InvalidSlip_InvalidText
  | 1, _ => T.kit_InvalidSlip_InvalidRows
  | 2, _ => T.kit_InvalidSlip_Refused
  | 3, _ => T.kit_InvalidSlip_NoBlock
  | 4, _ => T.kit_InvalidSlip_InvalidForm
  | 5, _ => T.kit_InvalidSlip_InvalidLane
  | 6, _ => T.kit_InvalidSlip_InvalidBlock
  | 7, _ => T.kit_InvalidSlip_InvalidSlip
  | 8, _ => T.kit_InvalidSlip_InvalidCalendar
  | 9, _ => T.kit_InvalidSlip_InvalidPlan
  | 10, _ => T.kit_InvalidSlip_InvalidFault
  | 11, _ => T.kit_InvalidSlip_InvalidCommand
  | n + 12, h => absurd h (by omega)
theorem kit8 (T : Txt K mg) : ∀ j, j < 12 → PySem.W.kitOne K (.ref T.c_InvalidCalendar) (.ref (cl T j)) = some (decide (8 = j))
  | 0, _ => T.kit_InvalidCalendar_InvalidText
  | 1, _ => T.kit_InvalidCalendar_InvalidRows
  | 2, _ => T.kit_InvalidCalendar_Refused
  | 3, _ => T.kit_InvalidCalendar_NoBlock
  | 4, _ => T.kit_InvalidCalendar_InvalidForm
  | 5, _ => T.kit_InvalidCalendar_InvalidLane
  | 6, _ => T.kit_InvalidCalendar_InvalidBlock
  | 7, _ => T.kit_InvalidCalendar_InvalidSlip
  | 8, _ => T.kit_InvalidCalendar_InvalidCalendar
  | 9, _ => T.kit_InvalidCalendar_InvalidPlan
  | 10, _ => T.kit_InvalidCalendar_InvalidFault
  | 11, _ => T.kit_InvalidCalendar_InvalidCommand
  | n + 12, h => absurd h (by omega)
theorem kit9 (T : Txt K mg) : ∀ j, j < 12 → PySem.W.kitOne K (.ref T.c_InvalidPlan) (.ref (cl T j)) = some (decide (9 = j))
  | 0, _ => T.kit_InvalidPlan_InvalidText
  | 1, _ => T.kit_InvalidPlan_InvalidRows
  | 2, _ => T.kit_InvalidPlan_Refused
  | 3, _ => T.kit_InvalidPlan_NoBlock
  | 4, _ => T.kit_InvalidPlan_InvalidForm
  | 5, _ => T.kit_InvalidPlan_InvalidLane
  | 6, _ => T.kit_InvalidPlan_InvalidBlock
  | 7, _ => T.kit_InvalidPlan_InvalidSlip
  | 8, _ => T.kit_InvalidPlan_InvalidCalendar
  | 9, _ => T.kit_InvalidPlan_InvalidPlan
  | 10, _ => T.kit_InvalidPlan_InvalidFault
  | 11, _ => T.kit_InvalidPlan_InvalidCommand
  | n + 12, h => absurd h (by omega)
theorem kit10 (T : Txt K mg) : ∀ j, j < 12 → PySem.W.kitOne K (.ref T.c_InvalidFault) (.ref (cl T j)) = some (decide (10 = j))
  | 0, _ => T.kit_InvalidFault_InvalidText
  | 1, _ => T.kit_InvalidFault_InvalidRows
  | 2, _ => T.kit_InvalidFault_Refused
  | 3, _ => T.kit_InvalidFault_NoBlock
  | 4, _ => T.kit_InvalidFault_InvalidForm
  | 5, _ => T.kit_InvalidFault_InvalidLane
  | 6, _ => T.kit_InvalidFault_InvalidBlock
  | 7, _ => T.kit_InvalidFault_InvalidSlip
  | 8, _ => T.kit_InvalidFault_InvalidCalendar
  | 9, _ => T.kit_InvalidFault_InvalidPlan
  | 10, _ => T.kit_InvalidFault_InvalidFault
  | 11, _ => T.kit_InvalidFault_InvalidCommand
  | n + 12, h => absurd h (by omega)
theorem kit11 (T : Txt K mg) : ∀ j, j < 12 → PySem.W.kitOne K (.ref T.c_InvalidCommand) (.ref (cl T j)) = some (decide (11 = j))
  | 0, _ => T.kit_InvalidCommand_InvalidText
  | 1, _ => T.kit_InvalidCommand_InvalidRows
  | 2, _ => T.kit_InvalidCommand_Refused
  | 3, _ => T.kit_InvalidCommand_NoBlock
  | 4, _ => T.kit_InvalidCommand_InvalidForm
  | 5, _ => T.kit_InvalidCommand_InvalidLane
  | 6, _ => T.kit_InvalidCommand_InvalidBlock
  | 7, _ => T.kit_InvalidCommand_InvalidSlip
  | 8, _ => T.kit_InvalidCommand_InvalidCalendar
  | 9, _ => T.kit_InvalidCommand_InvalidPlan
  | 10, _ => T.kit_InvalidCommand_InvalidFault
  | 11, _ => T.kit_InvalidCommand_InvalidCommand
  | n + 12, h => absurd h (by omega)
theorem kit_all (T : Txt K mg) : ∀ i, i < 12 → ∀ j, j < 12 → PySem.W.kitOne K (.ref (cl T i)) (.ref (cl T j)) = some (decide (i = j))
  | 0, _ => kit0 T
  | 1, _ => kit1 T
  | 2, _ => kit2 T
  | 3, _ => kit3 T
  | 4, _ => kit4 T
  | 5, _ => kit5 T
  | 6, _ => kit6 T
  | 7, _ => kit7 T
  | 8, _ => kit8 T
  | 9, _ => kit9 T
  | 10, _ => kit10 T
  | 11, _ => kit11 T
  | n + 12, h => absurd h (by omega)
theorem kit_ring (T : Txt K mg) : ∀ i, i < 12 → PySem.W.kitOne K (.ref (cl T i)) (.ref T.c_RingError) = some (decide (i ≠ 3))
  | 0, _ => T.kit_InvalidText_RingError
  | 1, _ => T.kit_InvalidRows_RingError
  | 2, _ => T.kit_Refused_RingError
  | 3, _ => T.kit_NoBlock_RingError
  | 4, _ => T.kit_InvalidForm_RingError
  | 5, _ => T.kit_InvalidLane_RingError
  | 6, _ => T.kit_InvalidBlock_RingError
  | 7, _ => T.kit_InvalidSlip_RingError
  | 8, _ => T.kit_InvalidCalendar_RingError
  | 9, _ => T.kit_InvalidPlan_RingError
  | 10, _ => T.kit_InvalidFault_RingError
  | 11, _ => T.kit_InvalidCommand_RingError
  | n + 12, h => absurd h (by omega)
theorem kit_value (T : Txt K mg) : ∀ i, i < 12 → i ≠ 3 → PySem.W.kitOne K (.ref (cl T i)) (.type "ValueError") = some true
  | 0, _, n => T.kit_InvalidText_ValueError
  | 1, _, n => T.kit_InvalidRows_ValueError
  | 2, _, n => T.kit_Refused_ValueError
  | 3, _, n => absurd rfl n
  | 4, _, n => T.kit_InvalidForm_ValueError
  | 5, _, n => T.kit_InvalidLane_ValueError
  | 6, _, n => T.kit_InvalidBlock_ValueError
  | 7, _, n => T.kit_InvalidSlip_ValueError
  | 8, _, n => T.kit_InvalidCalendar_ValueError
  | 9, _, n => T.kit_InvalidPlan_ValueError
  | 10, _, n => T.kit_InvalidFault_ValueError
  | 11, _, n => T.kit_InvalidCommand_ValueError
  | n + 12, h, _ => absurd h (by omega)
theorem ex_all (T : Txt K mg) : ∀ i, i < 12 → ExX K (cl T i)
  | 0, _ => T.X_InvalidText
  | 1, _ => T.X_InvalidRows
  | 2, _ => T.X_Refused
  | 3, _ => T.X_NoBlock
  | 4, _ => T.X_InvalidForm
  | 5, _ => T.X_InvalidLane
  | 6, _ => T.X_InvalidBlock
  | 7, _ => T.X_InvalidSlip
  | 8, _ => T.X_InvalidCalendar
  | 9, _ => T.X_InvalidPlan
  | 10, _ => T.X_InvalidFault
  | 11, _ => T.X_InvalidCommand
  | n + 12, h => absurd h (by omega)
theorem xf_all (T : Txt K mg) : ∀ i, i < 9 → XfC K (cl T i) ∧ PySem.W.findIn K (.ref (cl T i)) (fld i) = some none
  | 0, _ => ⟨T.f_InvalidText, T.n_InvalidText⟩
  | 1, _ => ⟨T.f_InvalidRows, T.n_InvalidRows⟩
  | 2, _ => ⟨T.f_Refused, T.n_Refused⟩
  | 3, _ => ⟨T.f_NoBlock, T.n_NoBlock⟩
  | 4, _ => ⟨T.f_InvalidForm, T.n_InvalidForm⟩
  | 5, _ => ⟨T.f_InvalidLane, T.n_InvalidLane⟩
  | 6, _ => ⟨T.f_InvalidBlock, T.n_InvalidBlock⟩
  | 7, _ => ⟨T.f_InvalidSlip, T.n_InvalidSlip⟩
  | 8, _ => ⟨T.f_InvalidCalendar, T.n_InvalidCalendar⟩
  | n + 9, h => absurd h (by omega)
def spMade (C : Nat → Addr) : Sp := fun vs H Q _ => ∃ (i : Nat) (v : V), vs = [.int i, v] ∧ i < 12 ∧ ∀ a H', Same H H' → H a = none → ErrA H' a (C i) (kept i v) → Q (.ref a) H'
theorem exc_made {C : Addr} {f : Str} {v : V} {H : Hp} {Q : VK} {E : XK} (k : ∀ a H', Same H H' → H a = none → ErrA H' a C (some (f, v)) → Q (.ref a) H') : ∀ a, H a = none → spExc C f [.ref a, v] (upd H a (exo a C none)) (fun u H2 => u = .non ∧ Q (.ref a) H2) E := fun a ha =>
  ⟨a, v, rfl, upd_same, fun dx hd ne => ⟨rfl, by
    rw [upd_ne ne] at hd
    have s1 : Same H (upd (upd (upd H a (exo a C none)) dx (exd dx [(f, v)])) a (exo a C (some dx))) := fun b o e => by
      rw [upd_ne (ne_of_none e ha), upd_ne (ne_of_none e hd), upd_ne (ne_of_none e ha)]
      exact e
    exact k a _ s1 ha (.inl ⟨dx, f, v, rfl, upd_same, by rw [upd_ne ne]; exact upd_same⟩)⟩⟩
theorem ok_made (T : Txt K mg) : FnOk P w K mg base CX0 3 T.a__law_made T.d__law_made ["_law_at", "_law_value"] (spMade (cl T)) := by
  have GE0 : FnOk P w K mg base CX0 1 T.a_InvalidText___init__ T.d_InvalidText___init__ ["self", "at"] (spExc T.c_InvalidText "at") := ok_exc0 T
  have GE1 : FnOk P w K mg base CX0 1 T.a_InvalidRows___init__ T.d_InvalidRows___init__ ["self", "at"] (spExc T.c_InvalidRows "at") := ok_exc1 T
  have GE2 : FnOk P w K mg base CX0 1 T.a_Refused___init__ T.d_Refused___init__ ["self", "at"] (spExc T.c_Refused "at") := ok_exc2 T
  have GE3 : FnOk P w K mg base CX0 1 T.a_NoBlock___init__ T.d_NoBlock___init__ ["self", "at"] (spExc T.c_NoBlock "at") := ok_exc3 T
  have GE4 : FnOk P w K mg base CX0 1 T.a_InvalidForm___init__ T.d_InvalidForm___init__ ["self", "word"] (spExc T.c_InvalidForm "word") := ok_exc4 T
  have GE5 : FnOk P w K mg base CX0 1 T.a_InvalidLane___init__ T.d_InvalidLane___init__ ["self", "word"] (spExc T.c_InvalidLane "word") := ok_exc5 T
  have GE6 : FnOk P w K mg base CX0 1 T.a_InvalidBlock___init__ T.d_InvalidBlock___init__ ["self", "word"] (spExc T.c_InvalidBlock "word") := ok_exc6 T
  have GE7 : FnOk P w K mg base CX0 1 T.a_InvalidSlip___init__ T.d_InvalidSlip___init__ ["self", "word"] (spExc T.c_InvalidSlip "word") := ok_exc7 T
  have GE8 : FnOk P w K mg base CX0 1 T.a_InvalidCalendar___init__ T.d_InvalidCalendar___init__ ["self", "word"] (spExc T.c_InvalidCalendar "word") := ok_exc8 T
  refine T.F__law_made.ok sc__law_made (fun vs H Q E h => ?_) (fun cdv A outer s H vs Q E hr h => ?_)
  · obtain ⟨i, v, rfl, _⟩ := h
    rfl
  · obtain ⟨i, v, rfl, hi, k⟩ := h
    have nd := sc__law_made.nd
    refine ⟨_, (pss_cons (ps_if (pt_cmpR op_lt (pv 0) pe_int (nomark _)) (pss_cons (ps_if (pt_cmpR op_lt (pv 0) pe_int (nomark _)) (pss_one (ps_ret (pe_ifExp (pt_cmpR op_eq (pv 0) pe_int (nomark _)) (pe_oex T.x_InvalidText T.i_InvalidText T.t_InvalidText GE0 (hr.mono (by first | decide | omega)) T.b_InvalidText___init__ pass0 (by rfl) T.m_InvalidText (pa_cons (pv 1) pa_nil)) (pe_oex T.x_InvalidRows T.i_InvalidRows T.t_InvalidRows GE1 (hr.mono (by first | decide | omega)) T.b_InvalidRows___init__ pass0 (by rfl) T.m_InvalidRows (pa_cons (pv 1) pa_nil))))) pss_nil)
    (pss_one (ps_ret (pe_ifExp (pt_cmpR op_eq (pv 0) pe_int (nomark _)) (pe_oex T.x_Refused T.i_Refused T.t_Refused GE2 (hr.mono (by first | decide | omega)) T.b_Refused___init__ pass0 (by rfl) T.m_Refused (pa_cons (pv 1) pa_nil)) (pe_oei T.x_NoBlock T.i_NoBlock T.t_NoBlock GE3 (hr.mono (by first | decide | omega)) T.b_NoBlock___init__ pass0 (by rfl) T.m_NoBlock (pa_cons (pv 1) pa_nil)))))) pss_nil)
    (pss_cons (ps_if (pt_cmpR op_lt (pv 0) pe_int (nomark _)) (pss_cons (ps_if (pt_cmpR op_lt (pv 0) pe_int (nomark _)) (pss_one (ps_ret (pe_ifExp (pt_cmpR op_eq (pv 0) pe_int (nomark _)) (pe_oex T.x_InvalidForm T.i_InvalidForm T.t_InvalidForm GE4 (hr.mono (by first | decide | omega)) T.b_InvalidForm___init__ pass0 (by rfl) T.m_InvalidForm (pa_cons (pv 1) pa_nil)) (pe_oex T.x_InvalidLane T.i_InvalidLane T.t_InvalidLane GE5 (hr.mono (by first | decide | omega)) T.b_InvalidLane___init__ pass0 (by rfl) T.m_InvalidLane (pa_cons (pv 1) pa_nil))))) pss_nil)
    (pss_cons (ps_if (pt_cmpR op_eq (pv 0) pe_int (nomark _)) (pss_one (ps_ret (pe_oex T.x_InvalidBlock T.i_InvalidBlock T.t_InvalidBlock GE6 (hr.mono (by first | decide | omega)) T.b_InvalidBlock___init__ pass0 (by rfl) T.m_InvalidBlock (pa_cons (pv 1) pa_nil)))) pss_nil)
    (pss_one (ps_ret (pe_ifExp (pt_cmpR op_eq (pv 0) pe_int (nomark _)) (pe_oex T.x_InvalidSlip T.i_InvalidSlip T.t_InvalidSlip GE7 (hr.mono (by first | decide | omega)) T.b_InvalidSlip___init__ pass0 (by rfl) T.m_InvalidSlip (pa_cons (pv 1) pa_nil)) (pe_oex T.x_InvalidCalendar T.i_InvalidCalendar T.t_InvalidCalendar GE8 (hr.mono (by first | decide | omega)) T.b_InvalidCalendar___init__ pass0 (by rfl) T.m_InvalidCalendar (pa_cons (pv 1) pa_nil))))))) pss_nil)
    (pss_cons (ps_if (pt_cmpR op_eq (pv 0) pe_int (nomark _)) (pss_one (ps_ret (pe_exc0 PySem.F.excBase_ValueError T.q_InvalidPlan T.m_InvalidPlan T.k_InvalidPlan (by rfl)))) pss_nil)
    (pss_one (ps_ret (pe_ifExp (pt_cmpR op_eq (pv 0) pe_int (nomark _)) (pe_exc0 PySem.F.excBase_ValueError T.q_InvalidFault T.m_InvalidFault T.k_InvalidFault (by rfl)) (pe_exc0 PySem.F.excBase_ValueError T.q_InvalidCommand T.m_InvalidCommand T.k_InvalidCommand (by rfl)))))))), ?_⟩
    clear GE0 GE1 GE2 GE3 GE4 GE5 GE6 GE7 GE8
    rcases (by omega : i = 0 ∨ i = 1 ∨ i = 2 ∨ i = 3 ∨ i = 4 ∨ i = 5 ∨ i = 6 ∨ i = 7 ∨ i = 8 ∨ i = 9 ∨ i = 10 ∨ i = 11) with rfl | rfl | rfl | rfl | rfl | rfl | rfl | rfl | rfl | rfl | rfl | rfl
    · refine seqif_go (tst_go ?_)
      refine ⟨_, rfl, _, _, rfl, rfl, _, rfl, ifT (by decide) ?_⟩
      refine seqif_go (tst_go ?_)
      refine ⟨_, rfl, _, _, rfl, rfl, _, rfl, ifT (by decide) ?_⟩
      refine ret_go ?_
      refine ⟨_, rfl, rfl, _, rfl, ifT (by decide) ?_⟩
      exact ⟨_, rfl, (by show 1 ≤ 1000; decide), exc_made fun a H' s n e => k a H' s n e⟩
    · refine seqif_go (tst_go ?_)
      refine ⟨_, rfl, _, _, rfl, rfl, _, rfl, ifT (by decide) ?_⟩
      refine seqif_go (tst_go ?_)
      refine ⟨_, rfl, _, _, rfl, rfl, _, rfl, ifT (by decide) ?_⟩
      refine ret_go ?_
      refine ⟨_, rfl, rfl, _, rfl, ifF (by decide) ?_⟩
      exact ⟨_, rfl, (by show 1 ≤ 1000; decide), exc_made fun a H' s n e => k a H' s n e⟩
    · refine seqif_go (tst_go ?_)
      refine ⟨_, rfl, _, _, rfl, rfl, _, rfl, ifT (by decide) ?_⟩
      refine seqif_go (tst_go ?_)
      refine ⟨_, rfl, _, _, rfl, rfl, _, rfl, ifF (by decide) ?_⟩
      dsimp only [tNext]
      refine ret_go ?_
      refine ⟨_, rfl, rfl, _, rfl, ifT (by decide) ?_⟩
      exact ⟨_, rfl, (by show 1 ≤ 1000; decide), exc_made fun a H' s n e => k a H' s n e⟩
    · refine seqif_go (tst_go ?_)
      refine ⟨_, rfl, _, _, rfl, rfl, _, rfl, ifT (by decide) ?_⟩
      refine seqif_go (tst_go ?_)
      refine ⟨_, rfl, _, _, rfl, rfl, _, rfl, ifF (by decide) ?_⟩
      dsimp only [tNext]
      refine ret_go ?_
      refine ⟨_, rfl, rfl, _, rfl, ifF (by decide) ?_⟩
      exact ⟨_, rfl, (by show 1 ≤ 1000; decide), exc_made fun a H' s n e => k a H' s n e⟩
    · refine seqif_go (tst_go ?_)
      refine ⟨_, rfl, _, _, rfl, rfl, _, rfl, ifF (by decide) ?_⟩
      dsimp only [tNext]
      refine seqif_go (tst_go ?_)
      refine ⟨_, rfl, _, _, rfl, rfl, _, rfl, ifT (by decide) ?_⟩
      refine seqif_go (tst_go ?_)
      refine ⟨_, rfl, _, _, rfl, rfl, _, rfl, ifT (by decide) ?_⟩
      refine ret_go ?_
      refine ⟨_, rfl, rfl, _, rfl, ifT (by decide) ?_⟩
      exact ⟨_, rfl, (by show 1 ≤ 1000; decide), exc_made fun a H' s n e => k a H' s n e⟩
    · refine seqif_go (tst_go ?_)
      refine ⟨_, rfl, _, _, rfl, rfl, _, rfl, ifF (by decide) ?_⟩
      dsimp only [tNext]
      refine seqif_go (tst_go ?_)
      refine ⟨_, rfl, _, _, rfl, rfl, _, rfl, ifT (by decide) ?_⟩
      refine seqif_go (tst_go ?_)
      refine ⟨_, rfl, _, _, rfl, rfl, _, rfl, ifT (by decide) ?_⟩
      refine ret_go ?_
      refine ⟨_, rfl, rfl, _, rfl, ifF (by decide) ?_⟩
      exact ⟨_, rfl, (by show 1 ≤ 1000; decide), exc_made fun a H' s n e => k a H' s n e⟩
    · refine seqif_go (tst_go ?_)
      refine ⟨_, rfl, _, _, rfl, rfl, _, rfl, ifF (by decide) ?_⟩
      dsimp only [tNext]
      refine seqif_go (tst_go ?_)
      refine ⟨_, rfl, _, _, rfl, rfl, _, rfl, ifT (by decide) ?_⟩
      refine seqif_go (tst_go ?_)
      refine ⟨_, rfl, _, _, rfl, rfl, _, rfl, ifF (by decide) ?_⟩
      dsimp only [tNext]
      refine seqif_go (tst_go ?_)
      refine ⟨_, rfl, rfl, _, rfl, ifT (by decide) ?_⟩
      refine ret_go ?_
      exact ⟨_, rfl, (by show 1 ≤ 1000; decide), exc_made fun a H' s n e => k a H' s n e⟩
    · refine seqif_go (tst_go ?_)
      refine ⟨_, rfl, _, _, rfl, rfl, _, rfl, ifF (by decide) ?_⟩
      dsimp only [tNext]
      refine seqif_go (tst_go ?_)
      refine ⟨_, rfl, _, _, rfl, rfl, _, rfl, ifT (by decide) ?_⟩
      refine seqif_go (tst_go ?_)
      refine ⟨_, rfl, _, _, rfl, rfl, _, rfl, ifF (by decide) ?_⟩
      dsimp only [tNext]
      refine seqif_go (tst_go ?_)
      refine ⟨_, rfl, rfl, _, rfl, ifF (by decide) ?_⟩
      dsimp only [tNext]
      refine ret_go ?_
      refine ⟨_, rfl, rfl, _, rfl, ifT (by decide) ?_⟩
      exact ⟨_, rfl, (by show 1 ≤ 1000; decide), exc_made fun a H' s n e => k a H' s n e⟩
    · refine seqif_go (tst_go ?_)
      refine ⟨_, rfl, _, _, rfl, rfl, _, rfl, ifF (by decide) ?_⟩
      dsimp only [tNext]
      refine seqif_go (tst_go ?_)
      refine ⟨_, rfl, _, _, rfl, rfl, _, rfl, ifT (by decide) ?_⟩
      refine seqif_go (tst_go ?_)
      refine ⟨_, rfl, _, _, rfl, rfl, _, rfl, ifF (by decide) ?_⟩
      dsimp only [tNext]
      refine seqif_go (tst_go ?_)
      refine ⟨_, rfl, rfl, _, rfl, ifF (by decide) ?_⟩
      dsimp only [tNext]
      refine ret_go ?_
      refine ⟨_, rfl, rfl, _, rfl, ifF (by decide) ?_⟩
      exact ⟨_, rfl, (by show 1 ≤ 1000; decide), exc_made fun a H' s n e => k a H' s n e⟩
    · refine seqif_go (tst_go ?_)
      refine ⟨_, rfl, _, _, rfl, rfl, _, rfl, ifF (by decide) ?_⟩
      dsimp only [tNext]
      refine seqif_go (tst_go ?_)
      refine ⟨_, rfl, _, _, rfl, rfl, _, rfl, ifF (by decide) ?_⟩
      dsimp only [tNext]
      refine seqif_go (tst_go ?_)
      refine ⟨_, rfl, rfl, _, rfl, ifT (by decide) ?_⟩
      refine ret_go ?_
      exact fun a ha => k a _ (same_new ha) ha (.inr ⟨rfl, upd_same⟩)
    · refine seqif_go (tst_go ?_)
      refine ⟨_, rfl, _, _, rfl, rfl, _, rfl, ifF (by decide) ?_⟩
      dsimp only [tNext]
      refine seqif_go (tst_go ?_)
      refine ⟨_, rfl, _, _, rfl, rfl, _, rfl, ifF (by decide) ?_⟩
      dsimp only [tNext]
      refine seqif_go (tst_go ?_)
      refine ⟨_, rfl, rfl, _, rfl, ifF (by decide) ?_⟩
      dsimp only [tNext]
      refine ret_go ?_
      refine ⟨_, rfl, rfl, _, rfl, ifT (by decide) ?_⟩
      exact fun a ha => k a _ (same_new ha) ha (.inr ⟨rfl, upd_same⟩)
    · refine seqif_go (tst_go ?_)
      refine ⟨_, rfl, _, _, rfl, rfl, _, rfl, ifF (by decide) ?_⟩
      dsimp only [tNext]
      refine seqif_go (tst_go ?_)
      refine ⟨_, rfl, _, _, rfl, rfl, _, rfl, ifF (by decide) ?_⟩
      dsimp only [tNext]
      refine seqif_go (tst_go ?_)
      refine ⟨_, rfl, rfl, _, rfl, ifF (by decide) ?_⟩
      dsimp only [tNext]
      refine ret_go ?_
      refine ⟨_, rfl, rfl, _, rfl, ifF (by decide) ?_⟩
      exact fun a ha => k a _ (same_new ha) ha (.inr ⟨rfl, upd_same⟩)

theorem err_same {H H' : Hp} {a C : Addr} {o : Option (Str × V)} (h : ErrA H a C o) (s : Same H H') : ErrA H' a C o := by
  rcases h with ⟨dx, f, y, e, ha, hd⟩ | ⟨e, ha⟩
  · exact .inl ⟨dx, f, y, e, s _ _ ha, s _ _ hd⟩
  · exact .inr ⟨e, s _ _ ha⟩
theorem sorts_at {i n : Nat} {v : V} (h : ((List.range 12).map fun j => V.bl (decide (i = j)))[n]? = some v) : v = .bl (decide (i = n)) := by
  rw [List.getElem?_map] at h
  obtain ⟨j, e, h⟩ := Option.map_eq_some_iff.mp h
  have l := (List.getElem?_eq_some_iff.mp e).1
  rw [List.length_range] at l
  rw [List.getElem?_range l] at e
  cases e
  exact h.symm
def spSorts (C : Nat → Addr) : Sp := fun vs H Q _ => ∃ (a i : Nat) (o : Option (Str × V)), vs = [.ref a] ∧ i < 12 ∧ ErrA H a (C i) o ∧ ∀ l H', Same H H' → H' l = some (.lst [.int i]) → Q (.ref l) H'
theorem ok_sorts (T : Txt K mg) : FnOk P w K mg base CX0 1 T.a__law_sorts T.d__law_sorts ["_law_e"] (spSorts (cl T)) := by
  refine T.F__law_sorts.ok sc__law_sorts (fun vs H Q E h => ?_) (fun cdv A outer s H vs Q E hr h => ?_)
  · obtain ⟨a, i, o, rfl, _⟩ := h
    rfl
  · obtain ⟨a, i, o, rfl, hi, he, k⟩ := h
    have nd := sc__law_sorts.nd
    refine ⟨_, (pss_cons (ps_set (i := 1) nd rfl (Or.inl rfl) (pe_lst (pa_cons (pe_callB call_isE (by rfl) T.z_isinstance (by decide +kernel) (pa_cons (pv 0) (pa_cons (pe_glob rfl T.m_InvalidText (rel_ref _)) pa_nil))) (pa_cons (pe_callB call_isE (by rfl) T.z_isinstance (by decide +kernel) (pa_cons (pv 0) (pa_cons (pe_glob rfl T.m_InvalidRows (rel_ref _)) pa_nil))) (pa_cons (pe_callB call_isE (by rfl) T.z_isinstance (by decide +kernel) (pa_cons (pv 0) (pa_cons (pe_glob rfl T.m_Refused (rel_ref _)) pa_nil))) (pa_cons (pe_callB call_isE (by rfl) T.z_isinstance (by decide +kernel) (pa_cons (pv 0) (pa_cons (pe_glob rfl T.m_NoBlock (rel_ref _)) pa_nil))) pa_nil))))))
    (pss_cons (ps_set (i := 1) nd rfl (Or.inl rfl) (pe_op op_cat (pv 1) (pe_lst (pa_cons (pe_callB call_isE (by rfl) T.z_isinstance (by decide +kernel) (pa_cons (pv 0) (pa_cons (pe_glob rfl T.m_InvalidForm (rel_ref _)) pa_nil))) (pa_cons (pe_callB call_isE (by rfl) T.z_isinstance (by decide +kernel) (pa_cons (pv 0) (pa_cons (pe_glob rfl T.m_InvalidLane (rel_ref _)) pa_nil))) (pa_cons (pe_callB call_isE (by rfl) T.z_isinstance (by decide +kernel) (pa_cons (pv 0) (pa_cons (pe_glob rfl T.m_InvalidBlock (rel_ref _)) pa_nil))) pa_nil))))))
    (pss_cons (ps_set (i := 1) nd rfl (Or.inl rfl) (pe_op op_cat (pv 1) (pe_lst (pa_cons (pe_callB call_isE (by rfl) T.z_isinstance (by decide +kernel) (pa_cons (pv 0) (pa_cons (pe_glob rfl T.m_InvalidSlip (rel_ref _)) pa_nil))) (pa_cons (pe_callB call_isE (by rfl) T.z_isinstance (by decide +kernel) (pa_cons (pv 0) (pa_cons (pe_glob rfl T.m_InvalidCalendar (rel_ref _)) pa_nil))) (pa_cons (pe_callB call_isE (by rfl) T.z_isinstance (by decide +kernel) (pa_cons (pv 0) (pa_cons (pe_glob rfl T.m_InvalidPlan (rel_ref _)) pa_nil))) pa_nil))))))
    (pss_cons (ps_set (i := 1) nd rfl (Or.inl rfl) (pe_op op_cat (pv 1) (pe_lst (pa_cons (pe_callB call_isE (by rfl) T.z_isinstance (by decide +kernel) (pa_cons (pv 0) (pa_cons (pe_glob rfl T.m_InvalidFault (rel_ref _)) pa_nil))) (pa_cons (pe_callB call_isE (by rfl) T.z_isinstance (by decide +kernel) (pa_cons (pv 0) (pa_cons (pe_glob rfl T.m_InvalidCommand (rel_ref _)) pa_nil))) pa_nil)))))
    (pss_one (ps_ret (pe_lc (own := [("_law_at", 2), ("_law_is_so", 3)]) (g := (gTup K 2 (gCons (gName 2) (gCons (gName 3) gNil)))) (by rfl) nd (pi_enum (by rfl) T.z_enumerate (pa_cons (pv 1) pa_nil)) (blkOk_by (N := ["_law_e", "_law_found", "_law_at", "_law_is_so"]) (sc := defScope s__law_sorts) (own := [("_law_at", 2), ("_law_is_so", 3)]) (by decide +kernel)) (fun _ _ _ _ _ => by exact (pg_tup rfl (pgs_cons (pg_name (i := 2) nd rfl (Or.inl rfl)) (pgs_cons (pg_name (i := 3) nd rfl (Or.inl rfl)) pgs_nil)))) (fun _ _ _ _ _ => by exact pts_one (pt_val (pv 3))) (fun _ _ _ _ _ => by exact (pv 2))))))))), ?_⟩
    refine asg_go ?_
    refine ⟨_, rfl, a, _, o, _, _, _, rfl, he, ex_all T i hi, .own _, kit_all T i hi 0 (by decide), ?_⟩
    refine ⟨_, rfl, a, _, o, _, _, _, rfl, he, ex_all T i hi, .own _, kit_all T i hi 1 (by decide), ?_⟩
    refine ⟨_, rfl, a, _, o, _, _, _, rfl, he, ex_all T i hi, .own _, kit_all T i hi 2 (by decide), ?_⟩
    refine ⟨_, rfl, a, _, o, _, _, _, rfl, he, ex_all T i hi, .own _, kit_all T i hi 3 (by decide), ?_⟩
    refine ⟨szL (Nat.le_of_ble_eq_true rfl), fun l1 n1 => ?_⟩
    dsimp only [gName]
    have s1 := same_new (o := .lst [.bl (decide (i = 0)), .bl (decide (i = 1)), .bl (decide (i = 2)), .bl (decide (i = 3))]) n1
    have h1 : upd H l1 (.lst [.bl (decide (i = 0)), .bl (decide (i = 1)), .bl (decide (i = 2)), .bl (decide (i = 3))]) l1 = _ := upd_same
    generalize upd H l1 (.lst [.bl (decide (i = 0)), .bl (decide (i = 1)), .bl (decide (i = 2)), .bl (decide (i = 3))]) = H1 at s1 h1 ⊢
    have e9 := sizeLine_eq
    refine asg_go ?_
    refine ⟨_, rfl, ?_⟩
    refine ⟨_, rfl, a, _, o, _, _, _, rfl, (err_same he s1), ex_all T i hi, .own _, kit_all T i hi 4 (by decide), ?_⟩
    refine ⟨_, rfl, a, _, o, _, _, _, rfl, (err_same he s1), ex_all T i hi, .own _, kit_all T i hi 5 (by decide), ?_⟩
    refine ⟨_, rfl, a, _, o, _, _, _, rfl, (err_same he s1), ex_all T i hi, .own _, kit_all T i hi 6 (by decide), ?_⟩
    refine ⟨szL (Nat.le_of_ble_eq_true rfl), fun l2 n2 => ?_⟩
    have t2 := same_new (o := .lst [.bl (decide (i = 4)), .bl (decide (i = 5)), .bl (decide (i = 6))]) n2
    refine ⟨l1, l2, _, _, rfl, rfl, t2 _ _ h1, upd_same, by show _ + _ ≤ _; simp only [List.length_cons, List.length_nil]; omega, fun l3 n3 => ?_⟩
    dsimp only [gName]
    have s3 := (s1.trans t2).trans (same_new (o := .lst ([.bl (decide (i = 0)), .bl (decide (i = 1)), .bl (decide (i = 2)), .bl (decide (i = 3))] ++ [.bl (decide (i = 4)), .bl (decide (i = 5)), .bl (decide (i = 6))])) n3)
    have h3 : upd (upd H1 l2 (.lst [.bl (decide (i = 4)), .bl (decide (i = 5)), .bl (decide (i = 6))])) l3 (.lst ([.bl (decide (i = 0)), .bl (decide (i = 1)), .bl (decide (i = 2)), .bl (decide (i = 3))] ++ [.bl (decide (i = 4)), .bl (decide (i = 5)), .bl (decide (i = 6))])) l3 = some (.lst [.bl (decide (i = 0)), .bl (decide (i = 1)), .bl (decide (i = 2)), .bl (decide (i = 3)), .bl (decide (i = 4)), .bl (decide (i = 5)), .bl (decide (i = 6))]) := upd_same
    generalize upd (upd H1 l2 (.lst [.bl (decide (i = 4)), .bl (decide (i = 5)), .bl (decide (i = 6))])) l3 (.lst ([.bl (decide (i = 0)), .bl (decide (i = 1)), .bl (decide (i = 2)), .bl (decide (i = 3))] ++ [.bl (decide (i = 4)), .bl (decide (i = 5)), .bl (decide (i = 6))])) = H3 at s3 h3 ⊢
    refine asg_go ?_
    refine ⟨_, rfl, ?_⟩
    refine ⟨_, rfl, a, _, o, _, _, _, rfl, (err_same he s3), ex_all T i hi, .own _, kit_all T i hi 7 (by decide), ?_⟩
    refine ⟨_, rfl, a, _, o, _, _, _, rfl, (err_same he s3), ex_all T i hi, .own _, kit_all T i hi 8 (by decide), ?_⟩
    refine ⟨_, rfl, a, _, o, _, _, _, rfl, (err_same he s3), ex_all T i hi, .own _, kit_all T i hi 9 (by decide), ?_⟩
    refine ⟨szL (Nat.le_of_ble_eq_true rfl), fun l4 n4 => ?_⟩
    have t4 := same_new (o := .lst [.bl (decide (i = 7)), .bl (decide (i = 8)), .bl (decide (i = 9))]) n4
    refine ⟨l3, l4, _, _, rfl, rfl, t4 _ _ h3, upd_same, by show _ + _ ≤ _; simp only [List.length_cons, List.length_nil]; omega, fun l5 n5 => ?_⟩
    dsimp only [gName]
    have s5 := (s3.trans t4).trans (same_new (o := .lst ([.bl (decide (i = 0)), .bl (decide (i = 1)), .bl (decide (i = 2)), .bl (decide (i = 3)), .bl (decide (i = 4)), .bl (decide (i = 5)), .bl (decide (i = 6))] ++ [.bl (decide (i = 7)), .bl (decide (i = 8)), .bl (decide (i = 9))])) n5)
    have h5 : upd (upd H3 l4 (.lst [.bl (decide (i = 7)), .bl (decide (i = 8)), .bl (decide (i = 9))])) l5 (.lst ([.bl (decide (i = 0)), .bl (decide (i = 1)), .bl (decide (i = 2)), .bl (decide (i = 3)), .bl (decide (i = 4)), .bl (decide (i = 5)), .bl (decide (i = 6))] ++ [.bl (decide (i = 7)), .bl (decide (i = 8)), .bl (decide (i = 9))])) l5 = some (.lst [.bl (decide (i = 0)), .bl (decide (i = 1)), .bl (decide (i = 2)), .bl (decide (i = 3)), .bl (decide (i = 4)), .bl (decide (i = 5)), .bl (decide (i = 6)), .bl (decide (i = 7)), .bl (decide (i = 8)), .bl (decide (i = 9))]) := upd_same
    generalize upd (upd H3 l4 (.lst [.bl (decide (i = 7)), .bl (decide (i = 8)), .bl (decide (i = 9))])) l5 (.lst ([.bl (decide (i = 0)), .bl (decide (i = 1)), .bl (decide (i = 2)), .bl (decide (i = 3)), .bl (decide (i = 4)), .bl (decide (i = 5)), .bl (decide (i = 6))] ++ [.bl (decide (i = 7)), .bl (decide (i = 8)), .bl (decide (i = 9))])) = H5 at s5 h5 ⊢
    refine asg_go ?_
    refine ⟨_, rfl, ?_⟩
    refine ⟨_, rfl, a, _, o, _, _, _, rfl, (err_same he s5), ex_all T i hi, .own _, kit_all T i hi 10 (by decide), ?_⟩
    refine ⟨_, rfl, a, _, o, _, _, _, rfl, (err_same he s5), ex_all T i hi, .own _, kit_all T i hi 11 (by decide), ?_⟩
    refine ⟨szL (Nat.le_of_ble_eq_true rfl), fun l6 n6 => ?_⟩
    have t6 := same_new (o := .lst [.bl (decide (i = 10)), .bl (decide (i = 11))]) n6
    refine ⟨l5, l6, _, _, rfl, rfl, t6 _ _ h5, upd_same, by show _ + _ ≤ _; simp only [List.length_cons, List.length_nil]; omega, fun l7 n7 => ?_⟩
    dsimp only [gName]
    have s7 := (s5.trans t6).trans (same_new (o := .lst ([.bl (decide (i = 0)), .bl (decide (i = 1)), .bl (decide (i = 2)), .bl (decide (i = 3)), .bl (decide (i = 4)), .bl (decide (i = 5)), .bl (decide (i = 6)), .bl (decide (i = 7)), .bl (decide (i = 8)), .bl (decide (i = 9))] ++ [.bl (decide (i = 10)), .bl (decide (i = 11))])) n7)
    have h7 : upd (upd H5 l6 (.lst [.bl (decide (i = 10)), .bl (decide (i = 11))])) l7 (.lst ([.bl (decide (i = 0)), .bl (decide (i = 1)), .bl (decide (i = 2)), .bl (decide (i = 3)), .bl (decide (i = 4)), .bl (decide (i = 5)), .bl (decide (i = 6)), .bl (decide (i = 7)), .bl (decide (i = 8)), .bl (decide (i = 9))] ++ [.bl (decide (i = 10)), .bl (decide (i = 11))])) l7 = some (.lst [.bl (decide (i = 0)), .bl (decide (i = 1)), .bl (decide (i = 2)), .bl (decide (i = 3)), .bl (decide (i = 4)), .bl (decide (i = 5)), .bl (decide (i = 6)), .bl (decide (i = 7)), .bl (decide (i = 8)), .bl (decide (i = 9)), .bl (decide (i = 10)), .bl (decide (i = 11))]) := upd_same
    generalize upd (upd H5 l6 (.lst [.bl (decide (i = 10)), .bl (decide (i = 11))])) l7 (.lst ([.bl (decide (i = 0)), .bl (decide (i = 1)), .bl (decide (i = 2)), .bl (decide (i = 3)), .bl (decide (i = 4)), .bl (decide (i = 5)), .bl (decide (i = 6)), .bl (decide (i = 7)), .bl (decide (i = 8)), .bl (decide (i = 9))] ++ [.bl (decide (i = 10)), .bl (decide (i = 11))])) = H7 at s7 h7 ⊢
    have h8 : H7 l7 = some (.lst ((List.range 12).map fun j => V.bl (decide (i = j)))) := h7
    have ll : ((List.range 12).map fun j => V.bl (decide (i = j))).length = 12 := rfl
    refine ret_go ?_
    refine ⟨_, rfl, l7, _, rfl, SqL.of h8, fun D nD => ?_⟩
    refine lc_it (walk_enum (xs := (List.range 12).map fun j => V.bl (decide (i = j)))) (fun n Hc => Hc D = some (.lst (if i < n then [.int (i : Nat)] else [])) ∧ Same H7 Hc)
      ⟨upd_same, same_new nD⟩ (fun n Hc _ hP => SqL.of (hP.2 _ _ h8)) (fun n v Hc H9 hn hP hy => ?_) (fun Hc hP => ?_)
    · obtain ⟨hD, sc⟩ := hP
      rw [ll] at hn
      obtain ⟨T', v1, v2, rfl, nT, rfl, g1, g2⟩ := hy
      cases g1
      have e2 := sorts_at g2
      subst e2
      have sT := same_new (o := .tup [.int (n : Nat), .bl (decide (i = n))]) nT
      refine ⟨T', _, rfl, SqT.of upd_same, rfl, _, _, rfl, _, _, rfl, rfl, rfl, ?_⟩
      have hD := sT _ _ hD
      have sc := sc.trans sT
      refine ⟨_, rfl, _, rfl, ?_⟩
      dsimp only
      by_cases e : i = n
      · subst e
        rw [if_neg (Nat.lt_irrefl _)] at hD
        rw [if_pos (decide_eq_true rfl)]
        refine ⟨_, rfl, _, hD, szL (Nat.le_of_ble_eq_true rfl), ?_, same_lst sc nD⟩
        rw [upd_same, if_pos (Nat.lt_succ_self _)]
        rfl
      · rw [if_neg (show ¬ decide (i = n) = true from fun z => e (of_decide_eq_true z))]
        refine ⟨?_, sc⟩
        rw [hD]
        by_cases l : i < n
        · rw [if_pos l, if_pos (by omega)]
        · rw [if_neg l, if_neg (by omega)]
    · obtain ⟨hD, sc⟩ := hP
      rw [ll, if_pos hi] at hD
      exact k _ _ (s7.trans sc) hD
def spKept (K : PySem.W.Frag) (C : Nat → Addr) : Sp := fun vs H Q _ => ∃ (a i : Nat) (v : V) (d : PyData), vs = [.ref a, .int i, v] ∧ i < 9 ∧ ErrA H a (C i) (kept i v) ∧ Dp K H v d ∧ Sm 6 d ∧ Q (.bl true) H
theorem ok_kept (T : Txt K mg) {A : Around} (hA : A.guards = some []) : At A P w K mg base CX0 1 T.a__law_is_kept ["_law_e", "_law_at", "_law_value"] T.d__law_is_kept (spKept K (cl T)) := by
  refine fun_at T.F__law_is_kept sc__law_is_kept (fun vs H Q E h => ?_) (fun cdv outer s H vs Q E hr h => ?_)
  · obtain ⟨a, i, v, d, rfl, _⟩ := h
    rfl
  · obtain ⟨a, i, v, d, rfl, hi, he, hd, sm, k⟩ := h
    have nd := sc__law_is_kept.nd
    have hgd : (A.deeper (envOfC "_law_is_kept" (defScope s__law_is_kept) s.heap.objs.size T.a__law_is_kept cdv)).guards = some [] := guards_deeper hA
    refine ⟨_, (pss_one (ps_ret (pe_cmpR op_eq (pe_callB (call_reprD hr hgd) (by rfl) T.z_repr (by decide +kernel) (pa_cons (pe_ifExp (pt_cmpR op_lt (pv 1) pe_int (nomark _)) (pe_xfE (pv 0)) (pe_xfE (pv 0))) pa_nil)) (pe_callB (call_reprD hr hgd) (by rfl) T.z_repr (by decide +kernel) (pa_cons (pv 2) pa_nil)) (nomark _)))), ?_⟩
    have e9 := sizeLine_eq
    have ln := sm.ln
    have dp := sm.dp
    obtain ⟨xf, nf⟩ := xf_all T i hi
    have ek : kept i v = some (fld i, v) := if_pos hi
    rw [ek] at he
    refine ret_go ?_
    refine ⟨_, rfl, _, _, rfl, rfl, _, rfl, ifD (fun e => ?_) (fun e => ?_)⟩
    · have e4 : fld i = ("at" : Str) := if_pos (by omega)
      rw [e4] at he nf
      refine ⟨_, rfl, a, _, v, rfl, he, xf, nf, v, d, rfl, hd, sm.sh, sm.nd, by omega, by omega, ?_⟩
      refine ⟨_, rfl, v, d, rfl, hd, sm.sh, sm.nd, by omega, by omega, rfl, ?_⟩
      rw [decide_eq_true rfl]
      exact k
    · have e4 : fld i = ("word" : Str) := if_neg (by omega)
      rw [e4] at he nf
      refine ⟨_, rfl, a, _, v, rfl, he, xf, nf, v, d, rfl, hd, sm.sh, sm.nd, by omega, by omega, ?_⟩
      refine ⟨_, rfl, v, d, rfl, hd, sm.sh, sm.nd, by omega, by omega, rfl, ?_⟩
      rw [decide_eq_true rfl]
      exact k

end
end K01
namespace K01
open PySem PySem.Spec PyProof.Rows L2 Rs
local macro_rules | `(tactic| walk_at "om") => `(tactic| first | omega | (dsimp only; omega))
local macro_rules | `(tactic| walk_at "side") => `(tactic| first | omega | (dsimp only; omega) | decide | (unfold CMul; omega) | (unfold CDiv; omega) | (unfold CPow; omega) | exact wide_div (b := 64) (by omega) (by omega) (by decide) (by decide))
local macro_rules | `(tactic| walk_at "hp") => `(tactic| first | assumption | exact upd_same)
local macro_rules | `(tactic| walk_at "sq") => `(tactic| first | assumption | exact SqL.of (by assumption) | exact SqL.of upd_same)
local macro_rules | `(tactic| walk_at "st") => `(tactic| first
  | refine ⟨_, rfl, ?_⟩
  | (refine ⟨_, _, rfl, rfl, And.intro ?side ?_⟩; (case side => walk_at "side"))
  | refine ⟨_, _, rfl, rfl, ?_⟩
  | (refine' ⟨_, _, _, _, rfl, rfl, SqL.of ?hp, ?atx, ?_⟩; (case hp => walk_at "hp"); (case atx => exact rfl))
  | (refine' ⟨_, _, _, _, rfl, rfl, ?hp, ?atx, ?_⟩; (case hp => walk_at "hp"); (case atx => exact rfl))
  | (refine' ⟨_, _, rfl, Or.inl ?sq, ?_⟩; (case sq => walk_at "sq"))
  | refine Or.inl ⟨_, rfl, ?_⟩
  | refine Or.inr ⟨_, rfl, ?_⟩)
local macro_rules | `(tactic| walk_at "evd") => `(tactic| first
  | exact evd_int
  | exact evd_str
  | exact evd_non
  | exact evd_bl
  | exact evd_nil
  | (refine evd_cons ?_ (fun _ => ?_) <;> walk_at "evd")
  | (refine evd_tup ?_ (Nat.le_of_ble_eq_true rfl); walk_at "evd"))

section
variable {P : Program} {w : World} {K : PySem.W.Frag} {mg : Str → Option Value} {base : Heap}
theorem ifs_go {c : TT} {t u : TS} {D : Ends} {σ : L2.St} {H : Hp} (h : c σ H fun b H1 => if b = true then t D σ H1 else u D σ H1) : tIfS c t u D σ H := h
theorem skip_go {c : TT} {t rest : TS} {D : Ends} {σ : L2.St} {H : Hp} (hc : ∀ R : Bool → Hp → Prop, (∀ H', Same H H' → R false H') → c σ H R) (k : ∀ H', Same H H' → rest D σ H') : tSeq (tIfS c t tNext) rest D σ H := seqif_go (hc _ fun H' s => ifF rfl (by dsimp only [tNext]; exact k H' s))
theorem skip_end {c : TT} {t : TS} {D : Ends} {σ : L2.St} {H : Hp} (hc : ∀ R : Bool → Hp → Prop, (∀ H', Same H H' → R false H') → c σ H R) (k : ∀ H', Same H H' → D.nx σ H') : tIfS c t tNext D σ H := ifs_go (hc _ fun H' s => ifF rfl (by dsimp only [tNext]; exact k H' s))
theorem Da.same {S : Addr → Prop} {H H' : Hp} {v : V} {d : PyData} (h : Da S H v d) (s : Same H H') : Da S H' v d := Da.mono (fun _ z => z) (fun _ _ _ e => s _ _ e) (fun _ _ e => s _ _ e) _ _ h
theorem err_set {H : Hp} {a C l : Addr} {xs ys : List V} {o : Option (Str × V)} (h : ErrA H a C o) (e : H l = some (.lst xs)) : ErrA (upd H l (.lst ys)) a C o := by
  have ne : ∀ {b : Addr} {φ : Heap → Prop}, H b = some (.ext φ) → b ≠ l := fun {b φ} hb z => by
    rw [z, e] at hb
    cases hb
  rcases h with ⟨dx, f, y, eo, ha, hd⟩ | ⟨eo, ha⟩
  · exact .inl ⟨dx, f, y, eo, by rw [upd_ne (ne ha)]; exact ha, by rw [upd_ne (ne hd)]; exact hd⟩
  · exact .inr ⟨eo, by rw [upd_ne (ne ha)]; exact ha⟩
theorem shaped_one {n : Int} : SeqAt.shaped (.list [.int n]) = true := (okD.list (k := 0) (ds := [.int n]) fun d hd => by
  rw [List.mem_singleton] at hd
  subst hd
  exact ⟨rfl, Nat.le_refl _⟩).shaped (by decide)
theorem eqv_one {n : Int} : PyData.eqv (.list [.int n]) (.list [.int n]) = true := by
  show ((n == n) && true) = true
  simp
def spLaw (K : PySem.W.Frag) : Sp := fun vs H Q _ => ∃ (a : Addr) (ns : List Int), vs = [.ref a] ∧ SqL K H a (ns.map V.int) ∧ ns.length ≤ 63 ∧ ∀ H', Q (.bl true) H'
theorem ok_law (T : Txt K mg) : At callerA P w K mg base CX0 8 T.a_law ["_law_script"] T.d_law (spLaw K) := by
  have G__law_take : FnOk P w K mg base CX0 1 T.a__law_take T.d__law_take ["_law_box_here", "_law_many"] spTake := ok_take T
  have G__law_box : FnOk P w K mg base CX0 1 T.a__law_box T.d__law_box ["_law_script", "_law_k"] (spBox K) := ok_box T
  have A1 : FnOk P w K mg base CX0 4 T.a__law_any T.d__law_any ["_law_box_here", "_law_deep"] (spAny 1) := ok_any T 1
  have A3 : FnOk P w K mg base CX0 6 T.a__law_any T.d__law_any ["_law_box_here", "_law_deep"] (spAny 3) := ok_any T 3
  have G__law_any : FnOk P w K mg base CX0 6 T.a__law_any T.d__law_any ["_law_box_here", "_law_deep"] (fun vs H Q E => spAny 1 vs H Q E ∨ spAny 3 vs H Q E) := ⟨fun vs H Q E h => h.elim (A1.len vs H Q E) (A3.len vs H Q E), fun A outer s H args us vs Q E hr e0 bd r h => h.elim (A1.run A outer s H args us vs Q E (hr.mono (by decide)) e0 bd r) (A3.run A outer s H args us vs Q E hr e0 bd r)⟩
  have G__law_made : FnOk P w K mg base CX0 3 T.a__law_made T.d__law_made ["_law_at", "_law_value"] (spMade (cl T)) := ok_made T
  have G__law_sorts : FnOk P w K mg base CX0 1 T.a__law_sorts T.d__law_sorts ["_law_e"] (spSorts (cl T)) := ok_sorts T
  refine fun_at0 T.F_law sc_law (fun vs H Q E h => ?_) (fun cdv outer s H vs Q E hr h => ?_)
  · obtain ⟨a, ns, rfl, _⟩ := h
    rfl
  · obtain ⟨a, ns, rfl, hS, hlen, k⟩ := h
    have nd := sc_law.nd
    have hgd : (callerA.deeper (envOfC "law" (defScope s_law) s.heap.objs.size T.a_law cdv)).guards = some [] := guards_deeper rfl
    have GK : At (callerA.deeper (envOfC "law" (defScope s_law) s.heap.objs.size T.a_law cdv)) P w K mg base CX0 1 T.a__law_is_kept ["_law_e", "_law_at", "_law_value"] T.d__law_is_kept (spKept K (cl T)) := ok_kept T hgd
    refine ⟨_, (pss_cons (ps_for PassesOwn.never rfl (pi_range1 (by rfl) T.z_range (pa_cons (pe_callB (call_max2 rfl) (by rfl) T.z_max (by decide +kernel) (pa_cons pe_int (pa_cons (pe_callB (call_min2 rfl) (by rfl) T.z_min (by decide +kernel) (pa_cons pe_int (pa_cons (pe_callB call_len_seq (by rfl) T.z_len (by decide +kernel) (pa_cons (pv 0) pa_nil)) pa_nil))) pa_nil))) pa_nil)) (pg_name (i := 1) nd rfl (Or.inl rfl))
    (pss_cons (ps_set (i := 2) nd rfl (Or.inl rfl) (pe_call G__law_box (hr.mono (by first | decide | omega)) (by rfl) T.m__law_box T.k__law_box T.b__law_box .nil pass0 (pa_cons (pv 0) (pa_cons (pv 1) pa_nil))))
    (pss_one (ps_for PassesOwn.never rfl (pi_range1 (by rfl) T.z_range (pa_cons pe_int pa_nil)) (pg_name (i := 3) nd rfl (Or.inl rfl))
    (pss_cons (ps_set (i := 4) nd rfl (Or.inl rfl) (pe_call G__law_any (hr.mono (by first | decide | omega)) (by rfl) T.m__law_any T.k__law_any T.b__law_any .nil pass0 (pa_cons (pv 2) (pa_cons pe_int pa_nil))))
    (pss_cons (ps_set (i := 5) nd rfl (Or.inl rfl) (pe_call G__law_made (hr.mono (by first | decide | omega)) (by rfl) T.m__law_made T.k__law_made T.b__law_made .nil pass0 (pa_cons (pv 3) (pa_cons (pv 4) pa_nil))))
    (pss_cons (ps_if (PW.pt (pw_or (pt_cmpR (op_neD hr.units) (pe_call G__law_sorts (hr.mono (by first | decide | omega)) (by rfl) T.m__law_sorts T.k__law_sorts T.b__law_sorts .nil pass0 (pa_cons (pv 5) pa_nil)) (pe_lst (pa_cons (pv 3) pa_nil)) (nomark _)) (pw_or1 (pt_cmpR op_ne (pe_callB call_isE (by rfl) T.z_isinstance (by decide +kernel) (pa_cons (pv 5) (pa_cons (pe_glob rfl T.m_RingError (rel_ref _)) pa_nil))) (pe_cmpR op_ne (pv 3) pe_int (nomark _)) (nomark _))))) (pss_one (ps_ret pe_bl)) pss_nil)
    (pss_cons (ps_if (PW.pt (pw_or (PW.pt (pw_and (pt_val (pe_callB call_isE (by rfl) T.z_isinstance (by decide +kernel) (pa_cons (pv 5) (pa_cons (pe_glob rfl T.m_RingError (rel_ref _)) pa_nil)))) (pw_and1 (pt_not (pt_val (pe_callB call_isE (by rfl) T.z_isinstance (by decide +kernel) (pa_cons (pv 5) (pa_cons (pe_bltn (v := .ty "ValueError") (u := .type "ValueError") (by rfl) T.z_ValueError (by decide +kernel) (by exact rfl)) pa_nil)))))))) (pw_or1 (PW.pt (pw_and (pt_cmpR op_eq (pv 3) pe_int (nomark _)) (pw_and1 (pt_not (pt_val (pe_callB call_isE (by rfl) T.z_isinstance (by decide +kernel) (pa_cons (pv 5) (pa_cons (pe_bltn (v := .ty "IndexError") (u := .type "IndexError") (by rfl) T.z_IndexError (by decide +kernel) (by exact rfl)) pa_nil))))))))))) (pss_one (ps_ret pe_bl)) pss_nil)
    (pss_cons (ps_if (PW.pt (pw_and (pt_cmpR op_lt (pv 3) pe_int (nomark _)) (pw_and1 (pt_not (pt_val (pe_callAt GK (hr.mono (by first | decide | omega)) (by rfl) T.m__law_is_kept T.k__law_is_kept T.b__law_is_kept pass0 (pa_cons (pv 5) (pa_cons (pv 3) (pa_cons (pv 4) pa_nil))))))))) (pss_one (ps_ret pe_bl)) pss_nil)
    (pss_cons (ps_set (i := 6) nd rfl (Or.inl rfl) (pe_lst (pa_cons (pe_call G__law_any (hr.mono (by first | decide | omega)) (by rfl) T.m__law_any T.k__law_any T.b__law_any .nil pass0 (pa_cons (pv 2) (pa_cons pe_int pa_nil))) pa_nil)))
    (pss_cons (ps_set (i := 5) nd rfl (Or.inl rfl) (pe_call G__law_made (hr.mono (by first | decide | omega)) (by rfl) T.m__law_made T.k__law_made T.b__law_made .nil pass0 (pa_cons (pv 3) (pa_cons (pv 6) pa_nil))))
    (pss_cons (ps_if (PW.pt (pw_and (pt_cmpR op_lt (pv 3) pe_int (nomark _)) (pw_and1 (pt_not (pt_val (pe_callAt GK (hr.mono (by first | decide | omega)) (by rfl) T.m__law_is_kept T.k__law_is_kept T.b__law_is_kept pass0 (pa_cons (pv 5) (pa_cons (pv 3) (pa_cons (pv 6) pa_nil))))))))) (pss_one (ps_ret pe_bl)) pss_nil)
    (pss_cons (ps_expr (pe_bm PySem.F.plainAttrs_list PySem.F.slot_list_append PySem.F.type_list_append mt_append (pv 6) (pa_cons pe_str pa_nil)))
    (pss_one (ps_if (PW.pt (pw_and (pt_cmpR op_lt (pv 3) pe_int (nomark _)) (pw_and1 (pt_not (pt_val (pe_callAt GK (hr.mono (by first | decide | omega)) (by rfl) T.m__law_is_kept T.k__law_is_kept T.b__law_is_kept pass0 (pa_cons (pv 5) (pa_cons (pv 3) (pa_cons (pv 6) pa_nil))))))))) (pss_one (ps_ret pe_bl)) pss_nil)))))))))))))))
    (pss_one (ps_ret pe_bl))), ?_⟩
    clear GK G__law_take G__law_box A1 A3 G__law_any G__law_made G__law_sorts
    refine ⟨_, rfl, _, _, rfl, .inl hS, _, _, rfl, _, _, rfl, _, rfl, ?_, ?_, ?_⟩
    · split <;> split <;> omega
    · split <;> split <;> omega
    refine for_range (fun i σ H2 => ∃ y1 y2 y3 y4 y5 y6, σ = [some (.ref a), y1, y2, y3, y4, y5, y6] ∧ Same H H2)
      ⟨none, none, none, none, none, none, rfl, Same.refl _⟩ (fun i0 σ H2 hi hP => ?_) (fun σ H2 hP => ?_)
    · obtain ⟨y1, y2, y3, y4, y5, y6, rfl, s2⟩ := hP
      have i4 : i0 < 1000 := by
        revert hi
        split <;> split <;> omega
      refine ⟨_, rfl, _, rfl, a, ns, _, rfl, s2.seq hS, by omega, by omega, fun H3 b s3 nb B3 => ?_⟩
      have s03 := s2.trans s3
      have nb0 : H b = none := s2.free nb
      dsimp only [gName]
      clear hi
      refine ⟨_, rfl, by decide, by decide, ?_⟩
      refine for_range (fun i σ Hy => ∃ y3 y4 y5 y6, σ = [some (.ref a), some (.int (0 + (i0 : Int))), some (.ref b), y3, y4, y5, y6] ∧ Box Hy b ∧ But b H Hy)
        ⟨y3, y4, y5, y6, rfl, B3, But.of_same s03⟩ (fun i σ Hy hi hP => ?_) (fun σ Hy hP => ?_)
      · obtain ⟨y3, y4, y5, y6, rfl, By, ky⟩ := hP
        have hi : i < 12 := hi
        dsimp only [gName]
        refine asg_go ?_
        refine ⟨_, rfl, .inr ⟨b, rfl, By, fun v d H4 hv hm B4 k4 => ?_⟩⟩
        dsimp only [gName]
        have dv : Dp K H4 v d := Da.dp _ _ hv
        refine asg_go ?_
        refine ⟨_, rfl, _, rfl, i, v, by rw [Int.zero_add]; rfl, hi, fun a1 H5 s5 n5 he => ?_⟩
        dsimp only [gName]
        refine seqif_go (or_go (tst_go ?_))
        refine ⟨_, rfl, a1, i, kept i v, rfl, hi, he, fun l H6 s6 hl => ?_⟩
        refine ⟨_, rfl, szL (Nat.le_of_ble_eq_true rfl), fun l2 n2 => ?_⟩
        have t6 := same_new (o := .lst [.int (0 + (i : Int))]) n2
        refine ⟨.list [.int i], .list [.int (0 + (i : Int))], .lst (SqL.of (t6 _ _ hl)) (.cons (.int _) .nil), .lst (SqL.of upd_same) (.cons (.int _) .nil), shaped_one, shaped_one, _, rfl, ifF (by rw [Int.zero_add, eqv_one]; rfl) (tst_go ?_)⟩
        have s56 := s6.trans t6
        have he6 := err_same he s56
        refine ⟨_, rfl, a1, _, kept i v, _, _, _, rfl, he6, ex_all T i hi, .own _, kit_ring T i hi, _, rfl, rfl, rfl, _, rfl, ifF ?_ ?_⟩
        · by_cases e3 : i = 3
          · subst e3
            decide
          · have n3 : ¬ ((0 : Int) + (i : Int) = 3) := by omega
            simp [e3, n3]
            omega
        dsimp only [tNext]
        refine skip_go (fun R hR => ?_) (fun H7 s7 => ?_)
        · by_cases e3 : i = 3
          · subst e3
            refine ⟨_, rfl, a1, _, kept 3 v, _, _, _, rfl, he6, ex_all T 3 hi, .own _, kit_ring T 3 hi, _, rfl, ?_⟩
            refine ifF (by decide) (ifF rfl ?_)
            refine ⟨_, rfl, rfl, _, rfl, ifT (by decide) ?_⟩
            exact ⟨_, rfl, a1, _, kept 3 v, _, _, _, rfl, he6, ex_all T 3 hi, .ty _, T.kit_NoBlock_IndexError, _, rfl, hR _ (Same.refl _)⟩
          · refine ⟨_, rfl, a1, _, kept i v, _, _, _, rfl, he6, ex_all T i hi, .own _, kit_ring T i hi, _, rfl, ?_⟩
            refine ifT (decide_eq_true e3) ?_
            refine ⟨_, rfl, a1, _, kept i v, _, _, _, rfl, he6, ex_all T i hi, .ty _, kit_value T i hi e3, _, rfl, ?_⟩
            refine ifF rfl ?_
            exact ⟨_, rfl, rfl, _, rfl, ifF (by rw [dec_int]; exact decide_eq_false (by omega)) (hR _ (Same.refl _))⟩
        have sA := s56.trans s7
        have he7 := err_same he sA
        have dv7 : Dp K H7 v d := Da.dp _ _ (hv.same (s5.trans sA))
        refine skip_go (fun R hR => ?_) (fun H8 s8 => ?_)
        · by_cases h9 : i < 9
          · refine ⟨_, rfl, _, _, rfl, rfl, _, rfl, ifT (decide_eq_true (by omega)) ?_⟩
            exact ⟨_, rfl, _, rfl, _, rfl, a1, i, v, d, by rw [Int.zero_add]; rfl, h9, he7, dv7, hm.up (by decide), ⟨_, rfl, hR _ (Same.refl _)⟩⟩
          · exact ⟨_, rfl, _, _, rfl, rfl, _, rfl, ifF (decide_eq_false (by omega)) (hR _ (Same.refl _))⟩
        have s8' := s5.trans (sA.trans s8)
        have B8 := B4.same s8'
        have k8 := (ky.trans k4).trans (But.of_same s8')
        clear he he6 he7 dv7 sA s56 s7 s8 hl t6
        refine asg_go ?_
        refine ⟨_, rfl, .inl ⟨b, rfl, B8, fun v2 d2 H9 hv2 hm2 B9 k9 => ⟨szL (Nat.le_of_ble_eq_true rfl), fun l6 n6 => ?_⟩⟩⟩
        dsimp only [gName]
        have ne6 := B9.ne_none n6
        have sn := same_new (o := .lst [v2]) n6
        have hl6 : upd H9 l6 (.lst [v2]) l6 = some (.lst [v2]) := upd_same
        generalize upd H9 l6 (.lst [v2]) = Hl at sn hl6 ⊢
        refine asg_go ?_
        refine ⟨_, rfl, _, rfl, i, .ref l6, by rw [Int.zero_add]; rfl, hi, fun a2 H10 s10 n10 he2 => ?_⟩
        dsimp only [gName]
        have sm1 : Sm 6 (.list [d2]) := (sm_list (n := 2) (ds := [d2]) (fun x hx => by
          rw [List.mem_singleton] at hx
          subst hx
          exact hm2) (Nat.le_of_ble_eq_true rfl)).up (by decide)
        have sm2 : Sm 6 (.list [d2, .str "more"]) := (sm_list (n := 2) (ds := [d2, .str "more"]) (fun x hx => by
          rcases List.mem_cons.mp hx with hx | hx
          · subst hx
            exact hm2
          · rw [List.mem_singleton] at hx
            subst hx
            exact sm_leaf rfl rfl (by decide +kernel) (by decide +kernel)) (Nat.le_of_ble_eq_true rfl)).up (by decide)
        have hl10 := s10 _ _ hl6
        have dp1 : Dp K H10 (.ref l6) (.list [d2]) := .lst (SqL.of hl10) (.cons (Da.dp _ _ (hv2.same (sn.trans s10))) .nil)
        refine skip_go (fun R hR => ?_) (fun H11 s11 => ?_)
        · by_cases h9 : i < 9
          · refine ⟨_, rfl, _, _, rfl, rfl, _, rfl, ifT (decide_eq_true (by omega)) ?_⟩
            exact ⟨_, rfl, _, rfl, _, rfl, a2, i, .ref l6, .list [d2], by rw [Int.zero_add]; rfl, h9, he2, dp1, sm1, ⟨_, rfl, hR _ (Same.refl _)⟩⟩
          · exact ⟨_, rfl, _, _, rfl, rfl, _, rfl, ifF (decide_eq_false (by omega)) (hR _ (Same.refl _))⟩
        have hl11 := s11 _ _ hl10
        refine ⟨_, rfl, .inl ⟨rfl, _, SqL.of hl11⟩, l6, _, _, rfl, rfl, hl11, szL (Nat.le_of_ble_eq_true rfl), ?_⟩
        dsimp only [tDrop]
        have he3 := err_set (ys := [v2] ++ [.str "more"]) (err_same he2 s11) hl11
        have s12 : Same H9 (upd H11 l6 (.lst ([v2] ++ [.str "more"]))) := same_lst (sn.trans (s10.trans s11)) n6
        have dp2 : Dp K (upd H11 l6 (.lst ([v2] ++ [.str "more"]))) (.ref l6) (.list [d2, .str "more"]) := .lst (SqL.of upd_same) (.cons (Da.dp _ _ (hv2.same s12)) (.cons (.str _) .nil))
        have B12 := B9.same s12
        have k12 := (k8.trans k9).trans (But.of_same s12)
        generalize upd H11 l6 (.lst ([v2] ++ [.str "more"])) = H12 at he3 dp2 B12 k12 ⊢
        refine skip_end (fun R hR => ?_) (fun H13 s13 => ?_)
        · by_cases h9 : i < 9
          · refine ⟨_, rfl, _, _, rfl, rfl, _, rfl, ifT (decide_eq_true (by omega)) ?_⟩
            exact ⟨_, rfl, _, rfl, _, rfl, a2, i, .ref l6, .list [d2, .str "more"], by rw [Int.zero_add]; rfl, h9, he3, dp2, sm2, ⟨_, rfl, hR _ (Same.refl _)⟩⟩
          · exact ⟨_, rfl, _, _, rfl, rfl, _, rfl, ifF (decide_eq_false (by omega)) (hR _ (Same.refl _))⟩
        exact ⟨_, _, _, _, rfl, B12.same s13, k12.trans (But.of_same s13)⟩
      · obtain ⟨y3, y4, y5, y6, rfl, By, ky⟩ := hP
        exact ⟨_, _, _, _, _, _, rfl, fun a o e => ky _ _ (ne_of_none e nb0) e⟩
    · obtain ⟨y1, y2, y3, y4, y5, y6, rfl, s2⟩ := hP
      dsimp only
      refine ret_go ?_
      exact k H2

end
theorem all_mk {l : PySem.W.OpenLaw} {w : World} {K : PySem.W.Frag} {h : Heap} {mg : Str → Option Value} {fa : Addr} (X : K.In h) (G : h.Ns mainGlobals mg) (hfa : mg "law" = some (.ref fa))
    {C_RingError : Addr} (aC_RingError : PySem.W.nsIn K mainGlobals "RingError" = some (some (.ref C_RingError)))
    {C_InvalidForm : Addr} (aC_InvalidForm : PySem.W.nsIn K mainGlobals "InvalidForm" = some (some (.ref C_InvalidForm)))
    {nm_InvalidForm q_InvalidForm : Str} {N_InvalidForm : Addr} {bs_InvalidForm : List Value} {sn_InvalidForm : List Str} {sub_InvalidForm : List Value} {ab_InvalidForm : Bool} {col_InvalidForm : Option Bool} {dd_InvalidForm : Option Addr} {m0_InvalidForm m1_InvalidForm m2_InvalidForm m3_InvalidForm m5_InvalidForm : Option Value}
    (xL_InvalidForm : K.lookup C_InvalidForm = some (excClassObj nm_InvalidForm q_InvalidForm C_InvalidForm N_InvalidForm bs_InvalidForm [.ref C_RingError, .type "ValueError", .type "Exception", .type "BaseException", .type "object"] true sn_InvalidForm sub_InvalidForm ab_InvalidForm col_InvalidForm dd_InvalidForm m0_InvalidForm m1_InvalidForm m2_InvalidForm m3_InvalidForm m5_InvalidForm "ValueError.__new__"))
    (sa_InvalidForm : PySem.W.findIn K (.ref C_InvalidForm) "__setattr__" = some (some (.builtin "object.__setattr__")))
    (ga_InvalidForm : PySem.W.findIn K (.ref C_InvalidForm) "__getattribute__" = some (some (.builtin "BaseException.__getattribute__")))
    (gg_InvalidForm : PySem.W.findIn K (.ref C_InvalidForm) "__getattr__" = some none)
    (nw_InvalidForm : PySem.W.findIn K (.ref C_InvalidForm) "word" = some none)
    (ca_InvalidForm : PySem.W.findIn K (.ref C_InvalidForm) "__class__" = some (some (.builtin "object.__class__")))
    (kC_InvalidForm : PySem.W.keepIn K (.ref C_InvalidForm) = true)
    (eC_InvalidForm : PySem.W.subIn K (.ref C_InvalidForm) (.type "BaseException") = some true)
    (tC_InvalidForm : PySem.W.typeIn K (.ref C_InvalidForm) = some (.type "type"))
    (hC_InvalidForm : PySem.W.hasDictIn K C_InvalidForm = true)
    (sC_InvalidForm : PySem.W.subIn K (.ref C_InvalidForm) (.ref C_InvalidForm) = some true)
    (mo_InvalidForm : PySem.W.mroIn K C_InvalidForm (.type "object") = some true)
    (cl_InvalidForm : (PySem.W.clsIn K C_InvalidForm).isSome = true)
    {f0 : Addr} {od0 an0 : Option Addr} {sl0 : Array (Option Value)} {oc0 kV0 dc0 pm0 cd0 ct0 : Value}
    (l0 : K.lookup f0 = some ⟨oc0, od0, .func (PySem.W.fnOf "__init__" "InvalidForm.__init__" (defArgs s_InvalidForm___init__) (defBody s_InvalidForm___init__) (defScope s_InvalidForm___init__) .none kV0 dc0 pm0 an0 cd0 ct0), sl0⟩) (c0 : PySem.W.codeIn K cd0 "InvalidForm.__init__" = true) (k0 : PySem.W.keepIn K (.ref f0) = true)
    (iC_InvalidForm : PySem.W.findIn K (.ref C_InvalidForm) "__init__" = some (some (.ref f0))) (iT_InvalidForm : PySem.W.typeIn K (.ref f0) = some (.type "function"))
    {C_InvalidLane : Addr} (aC_InvalidLane : PySem.W.nsIn K mainGlobals "InvalidLane" = some (some (.ref C_InvalidLane)))
    {nm_InvalidLane q_InvalidLane : Str} {N_InvalidLane : Addr} {bs_InvalidLane : List Value} {sn_InvalidLane : List Str} {sub_InvalidLane : List Value} {ab_InvalidLane : Bool} {col_InvalidLane : Option Bool} {dd_InvalidLane : Option Addr} {m0_InvalidLane m1_InvalidLane m2_InvalidLane m3_InvalidLane m5_InvalidLane : Option Value}
    (xL_InvalidLane : K.lookup C_InvalidLane = some (excClassObj nm_InvalidLane q_InvalidLane C_InvalidLane N_InvalidLane bs_InvalidLane [.ref C_RingError, .type "ValueError", .type "Exception", .type "BaseException", .type "object"] true sn_InvalidLane sub_InvalidLane ab_InvalidLane col_InvalidLane dd_InvalidLane m0_InvalidLane m1_InvalidLane m2_InvalidLane m3_InvalidLane m5_InvalidLane "ValueError.__new__"))
    (sa_InvalidLane : PySem.W.findIn K (.ref C_InvalidLane) "__setattr__" = some (some (.builtin "object.__setattr__")))
    (ga_InvalidLane : PySem.W.findIn K (.ref C_InvalidLane) "__getattribute__" = some (some (.builtin "BaseException.__getattribute__")))
    (gg_InvalidLane : PySem.W.findIn K (.ref C_InvalidLane) "__getattr__" = some none)
    (nw_InvalidLane : PySem.W.findIn K (.ref C_InvalidLane) "word" = some none)
    (ca_InvalidLane : PySem.W.findIn K (.ref C_InvalidLane) "__class__" = some (some (.builtin "object.__class__")))
    (kC_InvalidLane : PySem.W.keepIn K (.ref C_InvalidLane) = true)
    (eC_InvalidLane : PySem.W.subIn K (.ref C_InvalidLane) (.type "BaseException") = some true)
    (tC_InvalidLane : PySem.W.typeIn K (.ref C_InvalidLane) = some (.type "type"))
    (hC_InvalidLane : PySem.W.hasDictIn K C_InvalidLane = true)
    (sC_InvalidLane : PySem.W.subIn K (.ref C_InvalidLane) (.ref C_InvalidLane) = some true)
    (mo_InvalidLane : PySem.W.mroIn K C_InvalidLane (.type "object") = some true)
    (cl_InvalidLane : (PySem.W.clsIn K C_InvalidLane).isSome = true)
    {f1 : Addr} {od1 an1 : Option Addr} {sl1 : Array (Option Value)} {oc1 kV1 dc1 pm1 cd1 ct1 : Value}
    (l1 : K.lookup f1 = some ⟨oc1, od1, .func (PySem.W.fnOf "__init__" "InvalidLane.__init__" (defArgs s_InvalidLane___init__) (defBody s_InvalidLane___init__) (defScope s_InvalidLane___init__) .none kV1 dc1 pm1 an1 cd1 ct1), sl1⟩) (c1 : PySem.W.codeIn K cd1 "InvalidLane.__init__" = true) (k1 : PySem.W.keepIn K (.ref f1) = true)
    (iC_InvalidLane : PySem.W.findIn K (.ref C_InvalidLane) "__init__" = some (some (.ref f1))) (iT_InvalidLane : PySem.W.typeIn K (.ref f1) = some (.type "function"))
    {C_InvalidBlock : Addr} (aC_InvalidBlock : PySem.W.nsIn K mainGlobals "InvalidBlock" = some (some (.ref C_InvalidBlock)))
    {nm_InvalidBlock q_InvalidBlock : Str} {N_InvalidBlock : Addr} {bs_InvalidBlock : List Value} {sn_InvalidBlock : List Str} {sub_InvalidBlock : List Value} {ab_InvalidBlock : Bool} {col_InvalidBlock : Option Bool} {dd_InvalidBlock : Option Addr} {m0_InvalidBlock m1_InvalidBlock m2_InvalidBlock m3_InvalidBlock m5_InvalidBlock : Option Value}
    (xL_InvalidBlock : K.lookup C_InvalidBlock = some (excClassObj nm_InvalidBlock q_InvalidBlock C_InvalidBlock N_InvalidBlock bs_InvalidBlock [.ref C_RingError, .type "ValueError", .type "Exception", .type "BaseException", .type "object"] true sn_InvalidBlock sub_InvalidBlock ab_InvalidBlock col_InvalidBlock dd_InvalidBlock m0_InvalidBlock m1_InvalidBlock m2_InvalidBlock m3_InvalidBlock m5_InvalidBlock "ValueError.__new__"))
    (sa_InvalidBlock : PySem.W.findIn K (.ref C_InvalidBlock) "__setattr__" = some (some (.builtin "object.__setattr__")))
    (ga_InvalidBlock : PySem.W.findIn K (.ref C_InvalidBlock) "__getattribute__" = some (some (.builtin "BaseException.__getattribute__")))
    (gg_InvalidBlock : PySem.W.findIn K (.ref C_InvalidBlock) "__getattr__" = some none)
    (nw_InvalidBlock : PySem.W.findIn K (.ref C_InvalidBlock) "word" = some none)
    (ca_InvalidBlock : PySem.W.findIn K (.ref C_InvalidBlock) "__class__" = some (some (.builtin "object.__class__")))
    (kC_InvalidBlock : PySem.W.keepIn K (.ref C_InvalidBlock) = true)
    (eC_InvalidBlock : PySem.W.subIn K (.ref C_InvalidBlock) (.type "BaseException") = some true)
    (tC_InvalidBlock : PySem.W.typeIn K (.ref C_InvalidBlock) = some (.type "type"))
    (hC_InvalidBlock : PySem.W.hasDictIn K C_InvalidBlock = true)
    (sC_InvalidBlock : PySem.W.subIn K (.ref C_InvalidBlock) (.ref C_InvalidBlock) = some true)
    (mo_InvalidBlock : PySem.W.mroIn K C_InvalidBlock (.type "object") = some true)
    (cl_InvalidBlock : (PySem.W.clsIn K C_InvalidBlock).isSome = true)
    {f2 : Addr} {od2 an2 : Option Addr} {sl2 : Array (Option Value)} {oc2 kV2 dc2 pm2 cd2 ct2 : Value}
    (l2 : K.lookup f2 = some ⟨oc2, od2, .func (PySem.W.fnOf "__init__" "InvalidBlock.__init__" (defArgs s_InvalidBlock___init__) (defBody s_InvalidBlock___init__) (defScope s_InvalidBlock___init__) .none kV2 dc2 pm2 an2 cd2 ct2), sl2⟩) (c2 : PySem.W.codeIn K cd2 "InvalidBlock.__init__" = true) (k2 : PySem.W.keepIn K (.ref f2) = true)
    (iC_InvalidBlock : PySem.W.findIn K (.ref C_InvalidBlock) "__init__" = some (some (.ref f2))) (iT_InvalidBlock : PySem.W.typeIn K (.ref f2) = some (.type "function"))
    {C_InvalidPlan : Addr} (aC_InvalidPlan : PySem.W.nsIn K mainGlobals "InvalidPlan" = some (some (.ref C_InvalidPlan)))
    (xq_InvalidPlan : PySem.W.excIn K C_InvalidPlan [.type "ValueError", .type "Exception", .type "BaseException", .type "object"] "ValueError.__new__" = true)
    (ga_InvalidPlan : PySem.W.findIn K (.ref C_InvalidPlan) "__getattribute__" = some (some (.builtin "BaseException.__getattribute__")))
    (gg_InvalidPlan : PySem.W.findIn K (.ref C_InvalidPlan) "__getattr__" = some none)
    (ca_InvalidPlan : PySem.W.findIn K (.ref C_InvalidPlan) "__class__" = some (some (.builtin "object.__class__")))
    (kC_InvalidPlan : PySem.W.keepIn K (.ref C_InvalidPlan) = true)
    (eC_InvalidPlan : PySem.W.subIn K (.ref C_InvalidPlan) (.type "BaseException") = some true)
    (tC_InvalidPlan : PySem.W.typeIn K (.ref C_InvalidPlan) = some (.type "type"))
    (hC_InvalidPlan : PySem.W.hasDictIn K C_InvalidPlan = true)
    (sC_InvalidPlan : PySem.W.subIn K (.ref C_InvalidPlan) (.ref C_InvalidPlan) = some true)
    (mo_InvalidPlan : PySem.W.mroIn K C_InvalidPlan (.type "object") = some true)
    (cl_InvalidPlan : (PySem.W.clsIn K C_InvalidPlan).isSome = true)
    {C_InvalidText : Addr} (aC_InvalidText : PySem.W.nsIn K mainGlobals "InvalidText" = some (some (.ref C_InvalidText)))
    {nm_InvalidText q_InvalidText : Str} {N_InvalidText : Addr} {bs_InvalidText : List Value} {sn_InvalidText : List Str} {sub_InvalidText : List Value} {ab_InvalidText : Bool} {col_InvalidText : Option Bool} {dd_InvalidText : Option Addr} {m0_InvalidText m1_InvalidText m2_InvalidText m3_InvalidText m5_InvalidText : Option Value}
    (xL_InvalidText : K.lookup C_InvalidText = some (excClassObj nm_InvalidText q_InvalidText C_InvalidText N_InvalidText bs_InvalidText [.ref C_RingError, .type "ValueError", .type "Exception", .type "BaseException", .type "object"] true sn_InvalidText sub_InvalidText ab_InvalidText col_InvalidText dd_InvalidText m0_InvalidText m1_InvalidText m2_InvalidText m3_InvalidText m5_InvalidText "ValueError.__new__"))
    (sa_InvalidText : PySem.W.findIn K (.ref C_InvalidText) "__setattr__" = some (some (.builtin "object.__setattr__")))
    (ga_InvalidText : PySem.W.findIn K (.ref C_InvalidText) "__getattribute__" = some (some (.builtin "BaseException.__getattribute__")))
    (gg_InvalidText : PySem.W.findIn K (.ref C_InvalidText) "__getattr__" = some none)
    (nw_InvalidText : PySem.W.findIn K (.ref C_InvalidText) "at" = some none)
    (ca_InvalidText : PySem.W.findIn K (.ref C_InvalidText) "__class__" = some (some (.builtin "object.__class__")))
    (kC_InvalidText : PySem.W.keepIn K (.ref C_InvalidText) = true)
    (eC_InvalidText : PySem.W.subIn K (.ref C_InvalidText) (.type "BaseException") = some true)
    (tC_InvalidText : PySem.W.typeIn K (.ref C_InvalidText) = some (.type "type"))
    (hC_InvalidText : PySem.W.hasDictIn K C_InvalidText = true)
    (sC_InvalidText : PySem.W.subIn K (.ref C_InvalidText) (.ref C_InvalidText) = some true)
    (mo_InvalidText : PySem.W.mroIn K C_InvalidText (.type "object") = some true)
    (cl_InvalidText : (PySem.W.clsIn K C_InvalidText).isSome = true)
    {f3 : Addr} {od3 an3 : Option Addr} {sl3 : Array (Option Value)} {oc3 kV3 dc3 pm3 cd3 ct3 : Value}
    (l3 : K.lookup f3 = some ⟨oc3, od3, .func (PySem.W.fnOf "__init__" "InvalidText.__init__" (defArgs s_InvalidText___init__) (defBody s_InvalidText___init__) (defScope s_InvalidText___init__) .none kV3 dc3 pm3 an3 cd3 ct3), sl3⟩) (c3 : PySem.W.codeIn K cd3 "InvalidText.__init__" = true) (k3 : PySem.W.keepIn K (.ref f3) = true)
    (iC_InvalidText : PySem.W.findIn K (.ref C_InvalidText) "__init__" = some (some (.ref f3))) (iT_InvalidText : PySem.W.typeIn K (.ref f3) = some (.type "function"))
    {C_InvalidRows : Addr} (aC_InvalidRows : PySem.W.nsIn K mainGlobals "InvalidRows" = some (some (.ref C_InvalidRows)))
    {nm_InvalidRows q_InvalidRows : Str} {N_InvalidRows : Addr} {bs_InvalidRows : List Value} {sn_InvalidRows : List Str} {sub_InvalidRows : List Value} {ab_InvalidRows : Bool} {col_InvalidRows : Option Bool} {dd_InvalidRows : Option Addr} {m0_InvalidRows m1_InvalidRows m2_InvalidRows m3_InvalidRows m5_InvalidRows : Option Value}
    (xL_InvalidRows : K.lookup C_InvalidRows = some (excClassObj nm_InvalidRows q_InvalidRows C_InvalidRows N_InvalidRows bs_InvalidRows [.ref C_RingError, .type "ValueError", .type "Exception", .type "BaseException", .type "object"] true sn_InvalidRows sub_InvalidRows ab_InvalidRows col_InvalidRows dd_InvalidRows m0_InvalidRows m1_InvalidRows m2_InvalidRows m3_InvalidRows m5_InvalidRows "ValueError.__new__"))
    (sa_InvalidRows : PySem.W.findIn K (.ref C_InvalidRows) "__setattr__" = some (some (.builtin "object.__setattr__")))
    (ga_InvalidRows : PySem.W.findIn K (.ref C_InvalidRows) "__getattribute__" = some (some (.builtin "BaseException.__getattribute__")))
    (gg_InvalidRows : PySem.W.findIn K (.ref C_InvalidRows) "__getattr__" = some none)
    (nw_InvalidRows : PySem.W.findIn K (.ref C_InvalidRows) "at" = some none)
    (ca_InvalidRows : PySem.W.findIn K (.ref C_InvalidRows) "__class__" = some (some (.builtin "object.__class__")))
    (kC_InvalidRows : PySem.W.keepIn K (.ref C_InvalidRows) = true)
    (eC_InvalidRows : PySem.W.subIn K (.ref C_InvalidRows) (.type "BaseException") = some true)
    (tC_InvalidRows : PySem.W.typeIn K (.ref C_InvalidRows) = some (.type "type"))
    (hC_InvalidRows : PySem.W.hasDictIn K C_InvalidRows = true)
    (sC_InvalidRows : PySem.W.subIn K (.ref C_InvalidRows) (.ref C_InvalidRows) = some true)
    (mo_InvalidRows : PySem.W.mroIn K C_InvalidRows (.type "object") = some true)
    (cl_InvalidRows : (PySem.W.clsIn K C_InvalidRows).isSome = true)
    {f4 : Addr} {od4 an4 : Option Addr} {sl4 : Array (Option Value)} {oc4 kV4 dc4 pm4 cd4 ct4 : Value}
    (l4 : K.lookup f4 = some ⟨oc4, od4, .func (PySem.W.fnOf "__init__" "InvalidRows.__init__" (defArgs s_InvalidRows___init__) (defBody s_InvalidRows___init__) (defScope s_InvalidRows___init__) .none kV4 dc4 pm4 an4 cd4 ct4), sl4⟩) (c4 : PySem.W.codeIn K cd4 "InvalidRows.__init__" = true) (k4 : PySem.W.keepIn K (.ref f4) = true)
    (iC_InvalidRows : PySem.W.findIn K (.ref C_InvalidRows) "__init__" = some (some (.ref f4))) (iT_InvalidRows : PySem.W.typeIn K (.ref f4) = some (.type "function"))
    {C_InvalidSlip : Addr} (aC_InvalidSlip : PySem.W.nsIn K mainGlobals "InvalidSlip" = some (some (.ref C_InvalidSlip)))
    {nm_InvalidSlip q_InvalidSlip : Str} {N_InvalidSlip : Addr} {bs_InvalidSlip : List Value} {sn_InvalidSlip : List Str} {sub_InvalidSlip : List Value} {ab_InvalidSlip : Bool} {col_InvalidSlip : Option Bool} {dd_InvalidSlip : Option Addr} {m0_InvalidSlip m1_InvalidSlip m2_InvalidSlip m3_InvalidSlip m5_InvalidSlip : Option Value}
    (xL_InvalidSlip : K.lookup C_InvalidSlip = some (excClassObj nm_InvalidSlip q_InvalidSlip C_InvalidSlip N_InvalidSlip bs_InvalidSlip [.ref C_RingError, .type "ValueError", .type "Exception", .type "BaseException", .type "object"] true sn_InvalidSlip sub_InvalidSlip ab_InvalidSlip col_InvalidSlip dd_InvalidSlip m0_InvalidSlip m1_InvalidSlip m2_InvalidSlip m3_InvalidSlip m5_InvalidSlip "ValueError.__new__"))
    (sa_InvalidSlip : PySem.W.findIn K (.ref C_InvalidSlip) "__setattr__" = some (some (.builtin "object.__setattr__")))
    (ga_InvalidSlip : PySem.W.findIn K (.ref C_InvalidSlip) "__getattribute__" = some (some (.builtin "BaseException.__getattribute__")))
    (gg_InvalidSlip : PySem.W.findIn K (.ref C_InvalidSlip) "__getattr__" = some none)
    (nw_InvalidSlip : PySem.W.findIn K (.ref C_InvalidSlip) "word" = some none)
    (ca_InvalidSlip : PySem.W.findIn K (.ref C_InvalidSlip) "__class__" = some (some (.builtin "object.__class__")))
    (kC_InvalidSlip : PySem.W.keepIn K (.ref C_InvalidSlip) = true)
    (eC_InvalidSlip : PySem.W.subIn K (.ref C_InvalidSlip) (.type "BaseException") = some true)
    (tC_InvalidSlip : PySem.W.typeIn K (.ref C_InvalidSlip) = some (.type "type"))
    (hC_InvalidSlip : PySem.W.hasDictIn K C_InvalidSlip = true)
    (sC_InvalidSlip : PySem.W.subIn K (.ref C_InvalidSlip) (.ref C_InvalidSlip) = some true)
    (mo_InvalidSlip : PySem.W.mroIn K C_InvalidSlip (.type "object") = some true)
    (cl_InvalidSlip : (PySem.W.clsIn K C_InvalidSlip).isSome = true)
    {f5 : Addr} {od5 an5 : Option Addr} {sl5 : Array (Option Value)} {oc5 kV5 dc5 pm5 cd5 ct5 : Value}
    (l5 : K.lookup f5 = some ⟨oc5, od5, .func (PySem.W.fnOf "__init__" "InvalidSlip.__init__" (defArgs s_InvalidSlip___init__) (defBody s_InvalidSlip___init__) (defScope s_InvalidSlip___init__) .none kV5 dc5 pm5 an5 cd5 ct5), sl5⟩) (c5 : PySem.W.codeIn K cd5 "InvalidSlip.__init__" = true) (k5 : PySem.W.keepIn K (.ref f5) = true)
    (iC_InvalidSlip : PySem.W.findIn K (.ref C_InvalidSlip) "__init__" = some (some (.ref f5))) (iT_InvalidSlip : PySem.W.typeIn K (.ref f5) = some (.type "function"))
    {C_InvalidCalendar : Addr} (aC_InvalidCalendar : PySem.W.nsIn K mainGlobals "InvalidCalendar" = some (some (.ref C_InvalidCalendar)))
    {nm_InvalidCalendar q_InvalidCalendar : Str} {N_InvalidCalendar : Addr} {bs_InvalidCalendar : List Value} {sn_InvalidCalendar : List Str} {sub_InvalidCalendar : List Value} {ab_InvalidCalendar : Bool} {col_InvalidCalendar : Option Bool} {dd_InvalidCalendar : Option Addr} {m0_InvalidCalendar m1_InvalidCalendar m2_InvalidCalendar m3_InvalidCalendar m5_InvalidCalendar : Option Value}
    (xL_InvalidCalendar : K.lookup C_InvalidCalendar = some (excClassObj nm_InvalidCalendar q_InvalidCalendar C_InvalidCalendar N_InvalidCalendar bs_InvalidCalendar [.ref C_RingError, .type "ValueError", .type "Exception", .type "BaseException", .type "object"] true sn_InvalidCalendar sub_InvalidCalendar ab_InvalidCalendar col_InvalidCalendar dd_InvalidCalendar m0_InvalidCalendar m1_InvalidCalendar m2_InvalidCalendar m3_InvalidCalendar m5_InvalidCalendar "ValueError.__new__"))
    (sa_InvalidCalendar : PySem.W.findIn K (.ref C_InvalidCalendar) "__setattr__" = some (some (.builtin "object.__setattr__")))
    (ga_InvalidCalendar : PySem.W.findIn K (.ref C_InvalidCalendar) "__getattribute__" = some (some (.builtin "BaseException.__getattribute__")))
    (gg_InvalidCalendar : PySem.W.findIn K (.ref C_InvalidCalendar) "__getattr__" = some none)
    (nw_InvalidCalendar : PySem.W.findIn K (.ref C_InvalidCalendar) "word" = some none)
    (ca_InvalidCalendar : PySem.W.findIn K (.ref C_InvalidCalendar) "__class__" = some (some (.builtin "object.__class__")))
    (kC_InvalidCalendar : PySem.W.keepIn K (.ref C_InvalidCalendar) = true)
    (eC_InvalidCalendar : PySem.W.subIn K (.ref C_InvalidCalendar) (.type "BaseException") = some true)
    (tC_InvalidCalendar : PySem.W.typeIn K (.ref C_InvalidCalendar) = some (.type "type"))
    (hC_InvalidCalendar : PySem.W.hasDictIn K C_InvalidCalendar = true)
    (sC_InvalidCalendar : PySem.W.subIn K (.ref C_InvalidCalendar) (.ref C_InvalidCalendar) = some true)
    (mo_InvalidCalendar : PySem.W.mroIn K C_InvalidCalendar (.type "object") = some true)
    (cl_InvalidCalendar : (PySem.W.clsIn K C_InvalidCalendar).isSome = true)
    {f6 : Addr} {od6 an6 : Option Addr} {sl6 : Array (Option Value)} {oc6 kV6 dc6 pm6 cd6 ct6 : Value}
    (l6 : K.lookup f6 = some ⟨oc6, od6, .func (PySem.W.fnOf "__init__" "InvalidCalendar.__init__" (defArgs s_InvalidCalendar___init__) (defBody s_InvalidCalendar___init__) (defScope s_InvalidCalendar___init__) .none kV6 dc6 pm6 an6 cd6 ct6), sl6⟩) (c6 : PySem.W.codeIn K cd6 "InvalidCalendar.__init__" = true) (k6 : PySem.W.keepIn K (.ref f6) = true)
    (iC_InvalidCalendar : PySem.W.findIn K (.ref C_InvalidCalendar) "__init__" = some (some (.ref f6))) (iT_InvalidCalendar : PySem.W.typeIn K (.ref f6) = some (.type "function"))
    {C_InvalidFault : Addr} (aC_InvalidFault : PySem.W.nsIn K mainGlobals "InvalidFault" = some (some (.ref C_InvalidFault)))
    (xq_InvalidFault : PySem.W.excIn K C_InvalidFault [.type "ValueError", .type "Exception", .type "BaseException", .type "object"] "ValueError.__new__" = true)
    (ga_InvalidFault : PySem.W.findIn K (.ref C_InvalidFault) "__getattribute__" = some (some (.builtin "BaseException.__getattribute__")))
    (gg_InvalidFault : PySem.W.findIn K (.ref C_InvalidFault) "__getattr__" = some none)
    (ca_InvalidFault : PySem.W.findIn K (.ref C_InvalidFault) "__class__" = some (some (.builtin "object.__class__")))
    (kC_InvalidFault : PySem.W.keepIn K (.ref C_InvalidFault) = true)
    (eC_InvalidFault : PySem.W.subIn K (.ref C_InvalidFault) (.type "BaseException") = some true)
    (tC_InvalidFault : PySem.W.typeIn K (.ref C_InvalidFault) = some (.type "type"))
    (hC_InvalidFault : PySem.W.hasDictIn K C_InvalidFault = true)
    (sC_InvalidFault : PySem.W.subIn K (.ref C_InvalidFault) (.ref C_InvalidFault) = some true)
    (mo_InvalidFault : PySem.W.mroIn K C_InvalidFault (.type "object") = some true)
    (cl_InvalidFault : (PySem.W.clsIn K C_InvalidFault).isSome = true)
    {C_InvalidCommand : Addr} (aC_InvalidCommand : PySem.W.nsIn K mainGlobals "InvalidCommand" = some (some (.ref C_InvalidCommand)))
    (xq_InvalidCommand : PySem.W.excIn K C_InvalidCommand [.type "ValueError", .type "Exception", .type "BaseException", .type "object"] "ValueError.__new__" = true)
    (ga_InvalidCommand : PySem.W.findIn K (.ref C_InvalidCommand) "__getattribute__" = some (some (.builtin "BaseException.__getattribute__")))
    (gg_InvalidCommand : PySem.W.findIn K (.ref C_InvalidCommand) "__getattr__" = some none)
    (ca_InvalidCommand : PySem.W.findIn K (.ref C_InvalidCommand) "__class__" = some (some (.builtin "object.__class__")))
    (kC_InvalidCommand : PySem.W.keepIn K (.ref C_InvalidCommand) = true)
    (eC_InvalidCommand : PySem.W.subIn K (.ref C_InvalidCommand) (.type "BaseException") = some true)
    (tC_InvalidCommand : PySem.W.typeIn K (.ref C_InvalidCommand) = some (.type "type"))
    (hC_InvalidCommand : PySem.W.hasDictIn K C_InvalidCommand = true)
    (sC_InvalidCommand : PySem.W.subIn K (.ref C_InvalidCommand) (.ref C_InvalidCommand) = some true)
    (mo_InvalidCommand : PySem.W.mroIn K C_InvalidCommand (.type "object") = some true)
    (cl_InvalidCommand : (PySem.W.clsIn K C_InvalidCommand).isSome = true)
    {C_Refused : Addr} (aC_Refused : PySem.W.nsIn K mainGlobals "Refused" = some (some (.ref C_Refused)))
    {nm_Refused q_Refused : Str} {N_Refused : Addr} {bs_Refused : List Value} {sn_Refused : List Str} {sub_Refused : List Value} {ab_Refused : Bool} {col_Refused : Option Bool} {dd_Refused : Option Addr} {m0_Refused m1_Refused m2_Refused m3_Refused m5_Refused : Option Value}
    (xL_Refused : K.lookup C_Refused = some (excClassObj nm_Refused q_Refused C_Refused N_Refused bs_Refused [.ref C_RingError, .type "ValueError", .type "Exception", .type "BaseException", .type "object"] true sn_Refused sub_Refused ab_Refused col_Refused dd_Refused m0_Refused m1_Refused m2_Refused m3_Refused m5_Refused "ValueError.__new__"))
    (sa_Refused : PySem.W.findIn K (.ref C_Refused) "__setattr__" = some (some (.builtin "object.__setattr__")))
    (ga_Refused : PySem.W.findIn K (.ref C_Refused) "__getattribute__" = some (some (.builtin "BaseException.__getattribute__")))
    (gg_Refused : PySem.W.findIn K (.ref C_Refused) "__getattr__" = some none)
    (nw_Refused : PySem.W.findIn K (.ref C_Refused) "at" = some none)
    (ca_Refused : PySem.W.findIn K (.ref C_Refused) "__class__" = some (some (.builtin "object.__class__")))
    (kC_Refused : PySem.W.keepIn K (.ref C_Refused) = true)
    (eC_Refused : PySem.W.subIn K (.ref C_Refused) (.type "BaseException") = some true)
    (tC_Refused : PySem.W.typeIn K (.ref C_Refused) = some (.type "type"))
    (hC_Refused : PySem.W.hasDictIn K C_Refused = true)
    (sC_Refused : PySem.W.subIn K (.ref C_Refused) (.ref C_Refused) = some true)
    (mo_Refused : PySem.W.mroIn K C_Refused (.type "object") = some true)
    (cl_Refused : (PySem.W.clsIn K C_Refused).isSome = true)
    {f7 : Addr} {od7 an7 : Option Addr} {sl7 : Array (Option Value)} {oc7 kV7 dc7 pm7 cd7 ct7 : Value}
    (l7 : K.lookup f7 = some ⟨oc7, od7, .func (PySem.W.fnOf "__init__" "Refused.__init__" (defArgs s_Refused___init__) (defBody s_Refused___init__) (defScope s_Refused___init__) .none kV7 dc7 pm7 an7 cd7 ct7), sl7⟩) (c7 : PySem.W.codeIn K cd7 "Refused.__init__" = true) (k7 : PySem.W.keepIn K (.ref f7) = true)
    (iC_Refused : PySem.W.findIn K (.ref C_Refused) "__init__" = some (some (.ref f7))) (iT_Refused : PySem.W.typeIn K (.ref f7) = some (.type "function"))
    {C_NoBlock : Addr} (aC_NoBlock : PySem.W.nsIn K mainGlobals "NoBlock" = some (some (.ref C_NoBlock)))
    {nm_NoBlock q_NoBlock : Str} {N_NoBlock : Addr} {bs_NoBlock : List Value} {sn_NoBlock : List Str} {sub_NoBlock : List Value} {ab_NoBlock : Bool} {col_NoBlock : Option Bool} {dd_NoBlock : Option Addr} {m0_NoBlock m1_NoBlock m2_NoBlock m3_NoBlock m5_NoBlock : Option Value}
    (xL_NoBlock : K.lookup C_NoBlock = some (excClassObj nm_NoBlock q_NoBlock C_NoBlock N_NoBlock bs_NoBlock [.type "IndexError", .type "LookupError", .type "Exception", .type "BaseException", .type "object"] true sn_NoBlock sub_NoBlock ab_NoBlock col_NoBlock dd_NoBlock m0_NoBlock m1_NoBlock m2_NoBlock m3_NoBlock m5_NoBlock "IndexError.__new__"))
    (sa_NoBlock : PySem.W.findIn K (.ref C_NoBlock) "__setattr__" = some (some (.builtin "object.__setattr__")))
    (ga_NoBlock : PySem.W.findIn K (.ref C_NoBlock) "__getattribute__" = some (some (.builtin "BaseException.__getattribute__")))
    (gg_NoBlock : PySem.W.findIn K (.ref C_NoBlock) "__getattr__" = some none)
    (nw_NoBlock : PySem.W.findIn K (.ref C_NoBlock) "at" = some none)
    (ca_NoBlock : PySem.W.findIn K (.ref C_NoBlock) "__class__" = some (some (.builtin "object.__class__")))
    (kC_NoBlock : PySem.W.keepIn K (.ref C_NoBlock) = true)
    (eC_NoBlock : PySem.W.subIn K (.ref C_NoBlock) (.type "BaseException") = some true)
    (tC_NoBlock : PySem.W.typeIn K (.ref C_NoBlock) = some (.type "type"))
    (hC_NoBlock : PySem.W.hasDictIn K C_NoBlock = true)
    (sC_NoBlock : PySem.W.subIn K (.ref C_NoBlock) (.ref C_NoBlock) = some true)
    (mo_NoBlock : PySem.W.mroIn K C_NoBlock (.type "object") = some true)
    (cl_NoBlock : (PySem.W.clsIn K C_NoBlock).isSome = true)
    {f8 : Addr} {od8 an8 : Option Addr} {sl8 : Array (Option Value)} {oc8 kV8 dc8 pm8 cd8 ct8 : Value}
    (l8 : K.lookup f8 = some ⟨oc8, od8, .func (PySem.W.fnOf "__init__" "NoBlock.__init__" (defArgs s_NoBlock___init__) (defBody s_NoBlock___init__) (defScope s_NoBlock___init__) .none kV8 dc8 pm8 an8 cd8 ct8), sl8⟩) (c8 : PySem.W.codeIn K cd8 "NoBlock.__init__" = true) (k8 : PySem.W.keepIn K (.ref f8) = true)
    (iC_NoBlock : PySem.W.findIn K (.ref C_NoBlock) "__init__" = some (some (.ref f8))) (iT_NoBlock : PySem.W.typeIn K (.ref f8) = some (.type "function"))
    (spec : PySem.W.specialIn K (.builtin "object.__class__") "__get__" = some (some (.builtin "getset_descriptor.__get__"))) (takes : PySem.W.takesIn K (.builtin "object.__class__") = some true)
    (kit_InvalidText_InvalidText : PySem.W.kitOne K (.ref C_InvalidText) (.ref C_InvalidText) = some true)
    (kit_InvalidText_InvalidRows : PySem.W.kitOne K (.ref C_InvalidText) (.ref C_InvalidRows) = some false)
    (kit_InvalidText_Refused : PySem.W.kitOne K (.ref C_InvalidText) (.ref C_Refused) = some false)
    (kit_InvalidText_NoBlock : PySem.W.kitOne K (.ref C_InvalidText) (.ref C_NoBlock) = some false)
    (kit_InvalidText_InvalidForm : PySem.W.kitOne K (.ref C_InvalidText) (.ref C_InvalidForm) = some false)
    (kit_InvalidText_InvalidLane : PySem.W.kitOne K (.ref C_InvalidText) (.ref C_InvalidLane) = some false)
    (kit_InvalidText_InvalidBlock : PySem.W.kitOne K (.ref C_InvalidText) (.ref C_InvalidBlock) = some false)
    (kit_InvalidText_InvalidSlip : PySem.W.kitOne K (.ref C_InvalidText) (.ref C_InvalidSlip) = some false)
    (kit_InvalidText_InvalidCalendar : PySem.W.kitOne K (.ref C_InvalidText) (.ref C_InvalidCalendar) = some false)
    (kit_InvalidText_InvalidPlan : PySem.W.kitOne K (.ref C_InvalidText) (.ref C_InvalidPlan) = some false)
    (kit_InvalidText_InvalidFault : PySem.W.kitOne K (.ref C_InvalidText) (.ref C_InvalidFault) = some false)
    (kit_InvalidText_InvalidCommand : PySem.W.kitOne K (.ref C_InvalidText) (.ref C_InvalidCommand) = some false)
    (kit_InvalidText_RingError : PySem.W.kitOne K (.ref C_InvalidText) (.ref C_RingError) = some true)
    (kit_InvalidText_ValueError : PySem.W.kitOne K (.ref C_InvalidText) (.type "ValueError") = some true)
    (kit_InvalidRows_InvalidText : PySem.W.kitOne K (.ref C_InvalidRows) (.ref C_InvalidText) = some false)
    (kit_InvalidRows_InvalidRows : PySem.W.kitOne K (.ref C_InvalidRows) (.ref C_InvalidRows) = some true)
    (kit_InvalidRows_Refused : PySem.W.kitOne K (.ref C_InvalidRows) (.ref C_Refused) = some false)
    (kit_InvalidRows_NoBlock : PySem.W.kitOne K (.ref C_InvalidRows) (.ref C_NoBlock) = some false)
    (kit_InvalidRows_InvalidForm : PySem.W.kitOne K (.ref C_InvalidRows) (.ref C_InvalidForm) = some false)
    (kit_InvalidRows_InvalidLane : PySem.W.kitOne K (.ref C_InvalidRows) (.ref C_InvalidLane) = some false)
    (kit_InvalidRows_InvalidBlock : PySem.W.kitOne K (.ref C_InvalidRows) (.ref C_InvalidBlock) = some false)
    (kit_InvalidRows_InvalidSlip : PySem.W.kitOne K (.ref C_InvalidRows) (.ref C_InvalidSlip) = some false)
    (kit_InvalidRows_InvalidCalendar : PySem.W.kitOne K (.ref C_InvalidRows) (.ref C_InvalidCalendar) = some false)
    (kit_InvalidRows_InvalidPlan : PySem.W.kitOne K (.ref C_InvalidRows) (.ref C_InvalidPlan) = some false)
    (kit_InvalidRows_InvalidFault : PySem.W.kitOne K (.ref C_InvalidRows) (.ref C_InvalidFault) = some false)
    (kit_InvalidRows_InvalidCommand : PySem.W.kitOne K (.ref C_InvalidRows) (.ref C_InvalidCommand) = some false)
    (kit_InvalidRows_RingError : PySem.W.kitOne K (.ref C_InvalidRows) (.ref C_RingError) = some true)
    (kit_InvalidRows_ValueError : PySem.W.kitOne K (.ref C_InvalidRows) (.type "ValueError") = some true)
    (kit_Refused_InvalidText : PySem.W.kitOne K (.ref C_Refused) (.ref C_InvalidText) = some false)
    (kit_Refused_InvalidRows : PySem.W.kitOne K (.ref C_Refused) (.ref C_InvalidRows) = some false)
    (kit_Refused_Refused : PySem.W.kitOne K (.ref C_Refused) (.ref C_Refused) = some true)
    (kit_Refused_NoBlock : PySem.W.kitOne K (.ref C_Refused) (.ref C_NoBlock) = some false)
    (kit_Refused_InvalidForm : PySem.W.kitOne K (.ref C_Refused) (.ref C_InvalidForm) = some false)
    (kit_Refused_InvalidLane : PySem.W.kitOne K (.ref C_Refused) (.ref C_InvalidLane) = some false)
    (kit_Refused_InvalidBlock : PySem.W.kitOne K (.ref C_Refused) (.ref C_InvalidBlock) = some false)
    (kit_Refused_InvalidSlip : PySem.W.kitOne K (.ref C_Refused) (.ref C_InvalidSlip) = some false)
    (kit_Refused_InvalidCalendar : PySem.W.kitOne K (.ref C_Refused) (.ref C_InvalidCalendar) = some false)
    (kit_Refused_InvalidPlan : PySem.W.kitOne K (.ref C_Refused) (.ref C_InvalidPlan) = some false)
    (kit_Refused_InvalidFault : PySem.W.kitOne K (.ref C_Refused) (.ref C_InvalidFault) = some false)
    (kit_Refused_InvalidCommand : PySem.W.kitOne K (.ref C_Refused) (.ref C_InvalidCommand) = some false)
    (kit_Refused_RingError : PySem.W.kitOne K (.ref C_Refused) (.ref C_RingError) = some true)
    (kit_Refused_ValueError : PySem.W.kitOne K (.ref C_Refused) (.type "ValueError") = some true)
    (kit_NoBlock_InvalidText : PySem.W.kitOne K (.ref C_NoBlock) (.ref C_InvalidText) = some false)
    (kit_NoBlock_InvalidRows : PySem.W.kitOne K (.ref C_NoBlock) (.ref C_InvalidRows) = some false)
    (kit_NoBlock_Refused : PySem.W.kitOne K (.ref C_NoBlock) (.ref C_Refused) = some false)
    (kit_NoBlock_NoBlock : PySem.W.kitOne K (.ref C_NoBlock) (.ref C_NoBlock) = some true)
    (kit_NoBlock_InvalidForm : PySem.W.kitOne K (.ref C_NoBlock) (.ref C_InvalidForm) = some false)
    (kit_NoBlock_InvalidLane : PySem.W.kitOne K (.ref C_NoBlock) (.ref C_InvalidLane) = some false)
    (kit_NoBlock_InvalidBlock : PySem.W.kitOne K (.ref C_NoBlock) (.ref C_InvalidBlock) = some false)
    (kit_NoBlock_InvalidSlip : PySem.W.kitOne K (.ref C_NoBlock) (.ref C_InvalidSlip) = some false)
    (kit_NoBlock_InvalidCalendar : PySem.W.kitOne K (.ref C_NoBlock) (.ref C_InvalidCalendar) = some false)
    (kit_NoBlock_InvalidPlan : PySem.W.kitOne K (.ref C_NoBlock) (.ref C_InvalidPlan) = some false)
    (kit_NoBlock_InvalidFault : PySem.W.kitOne K (.ref C_NoBlock) (.ref C_InvalidFault) = some false)
    (kit_NoBlock_InvalidCommand : PySem.W.kitOne K (.ref C_NoBlock) (.ref C_InvalidCommand) = some false)
    (kit_NoBlock_RingError : PySem.W.kitOne K (.ref C_NoBlock) (.ref C_RingError) = some false)
    (kit_NoBlock_IndexError : PySem.W.kitOne K (.ref C_NoBlock) (.type "IndexError") = some true)
    (kit_InvalidForm_InvalidText : PySem.W.kitOne K (.ref C_InvalidForm) (.ref C_InvalidText) = some false)
    (kit_InvalidForm_InvalidRows : PySem.W.kitOne K (.ref C_InvalidForm) (.ref C_InvalidRows) = some false)
    (kit_InvalidForm_Refused : PySem.W.kitOne K (.ref C_InvalidForm) (.ref C_Refused) = some false)
    (kit_InvalidForm_NoBlock : PySem.W.kitOne K (.ref C_InvalidForm) (.ref C_NoBlock) = some false)
    (kit_InvalidForm_InvalidForm : PySem.W.kitOne K (.ref C_InvalidForm) (.ref C_InvalidForm) = some true)
    (kit_InvalidForm_InvalidLane : PySem.W.kitOne K (.ref C_InvalidForm) (.ref C_InvalidLane) = some false)
    (kit_InvalidForm_InvalidBlock : PySem.W.kitOne K (.ref C_InvalidForm) (.ref C_InvalidBlock) = some false)
    (kit_InvalidForm_InvalidSlip : PySem.W.kitOne K (.ref C_InvalidForm) (.ref C_InvalidSlip) = some false)
    (kit_InvalidForm_InvalidCalendar : PySem.W.kitOne K (.ref C_InvalidForm) (.ref C_InvalidCalendar) = some false)
    (kit_InvalidForm_InvalidPlan : PySem.W.kitOne K (.ref C_InvalidForm) (.ref C_InvalidPlan) = some false)
    (kit_InvalidForm_InvalidFault : PySem.W.kitOne K (.ref C_InvalidForm) (.ref C_InvalidFault) = some false)
    (kit_InvalidForm_InvalidCommand : PySem.W.kitOne K (.ref C_InvalidForm) (.ref C_InvalidCommand) = some false)
    (kit_InvalidForm_RingError : PySem.W.kitOne K (.ref C_InvalidForm) (.ref C_RingError) = some true)
    (kit_InvalidForm_ValueError : PySem.W.kitOne K (.ref C_InvalidForm) (.type "ValueError") = some true)
    (kit_InvalidLane_InvalidText : PySem.W.kitOne K (.ref C_InvalidLane) (.ref C_InvalidText) = some false)
    (kit_InvalidLane_InvalidRows : PySem.W.kitOne K (.ref C_InvalidLane) (.ref C_InvalidRows) = some false)
    (kit_InvalidLane_Refused : PySem.W.kitOne K (.ref C_InvalidLane) (.ref C_Refused) = some false)
    (kit_InvalidLane_NoBlock : PySem.W.kitOne K (.ref C_InvalidLane) (.ref C_NoBlock) = some false)
    (kit_InvalidLane_InvalidForm : PySem.W.kitOne K (.ref C_InvalidLane) (.ref C_InvalidForm) = some false)
    (kit_InvalidLane_InvalidLane : PySem.W.kitOne K (.ref C_InvalidLane) (.ref C_InvalidLane) = some true)
    (kit_InvalidLane_InvalidBlock : PySem.W.kitOne K (.ref C_InvalidLane) (.ref C_InvalidBlock) = some false)
    (kit_InvalidLane_InvalidSlip : PySem.W.kitOne K (.ref C_InvalidLane) (.ref C_InvalidSlip) = some false)
    (kit_InvalidLane_InvalidCalendar : PySem.W.kitOne K (.ref C_InvalidLane) (.ref C_InvalidCalendar) = some false)
    (kit_InvalidLane_InvalidPlan : PySem.W.kitOne K (.ref C_InvalidLane) (.ref C_InvalidPlan) = some false)
    (kit_InvalidLane_InvalidFault : PySem.W.kitOne K (.ref C_InvalidLane) (.ref C_InvalidFault) = some false)
    (kit_InvalidLane_InvalidCommand : PySem.W.kitOne K (.ref C_InvalidLane) (.ref C_InvalidCommand) = some false)
    (kit_InvalidLane_RingError : PySem.W.kitOne K (.ref C_InvalidLane) (.ref C_RingError) = some true)
    (kit_InvalidLane_ValueError : PySem.W.kitOne K (.ref C_InvalidLane) (.type "ValueError") = some true)
    (kit_InvalidBlock_InvalidText : PySem.W.kitOne K (.ref C_InvalidBlock) (.ref C_InvalidText) = some false)
    (kit_InvalidBlock_InvalidRows : PySem.W.kitOne K (.ref C_InvalidBlock) (.ref C_InvalidRows) = some false)
    (kit_InvalidBlock_Refused : PySem.W.kitOne K (.ref C_InvalidBlock) (.ref C_Refused) = some false)
    (kit_InvalidBlock_NoBlock : PySem.W.kitOne K (.ref C_InvalidBlock) (.ref C_NoBlock) = some false)
    (kit_InvalidBlock_InvalidForm : PySem.W.kitOne K (.ref C_InvalidBlock) (.ref C_InvalidForm) = some false)
    (kit_InvalidBlock_InvalidLane : PySem.W.kitOne K (.ref C_InvalidBlock) (.ref C_InvalidLane) = some false)
    (kit_InvalidBlock_InvalidBlock : PySem.W.kitOne K (.ref C_InvalidBlock) (.ref C_InvalidBlock) = some true)
    (kit_InvalidBlock_InvalidSlip : PySem.W.kitOne K (.ref C_InvalidBlock) (.ref C_InvalidSlip) = some false)
    (kit_InvalidBlock_InvalidCalendar : PySem.W.kitOne K (.ref C_InvalidBlock) (.ref C_InvalidCalendar) = some false)
    (kit_InvalidBlock_InvalidPlan : PySem.W.kitOne K (.ref C_InvalidBlock) (.ref C_InvalidPlan) = some false)
    (kit_InvalidBlock_InvalidFault : PySem.W.kitOne K (.ref C_InvalidBlock) (.ref C_InvalidFault) = some false)
    (kit_InvalidBlock_InvalidCommand : PySem.W.kitOne K (.ref C_InvalidBlock) (.ref C_InvalidCommand) = some false)
    (kit_InvalidBlock_RingError : PySem.W.kitOne K (.ref C_InvalidBlock) (.ref C_RingError) = some true)
    (kit_InvalidBlock_ValueError : PySem.W.kitOne K (.ref C_InvalidBlock) (.type "ValueError") = some true)
    (kit_InvalidSlip_InvalidText : PySem.W.kitOne K (.ref C_InvalidSlip) (.ref C_InvalidText) = some false)
    (kit_InvalidSlip_InvalidRows : PySem.W.kitOne K (.ref C_InvalidSlip) (.ref C_InvalidRows) = some false)
    (kit_InvalidSlip_Refused : PySem.W.kitOne K (.ref C_InvalidSlip) (.ref C_Refused) = some false)
    (kit_InvalidSlip_NoBlock : PySem.W.kitOne K (.ref C_InvalidSlip) (.ref C_NoBlock) = some false)
    (kit_InvalidSlip_InvalidForm : PySem.W.kitOne K (.ref C_InvalidSlip) (.ref C_InvalidForm) = some false)
    (kit_InvalidSlip_InvalidLane : PySem.W.kitOne K (.ref C_InvalidSlip) (.ref C_InvalidLane) = some false)
    (kit_InvalidSlip_InvalidBlock : PySem.W.kitOne K (.ref C_InvalidSlip) (.ref C_InvalidBlock) = some false)
    (kit_InvalidSlip_InvalidSlip : PySem.W.kitOne K (.ref C_InvalidSlip) (.ref C_InvalidSlip) = some true)
    (kit_InvalidSlip_InvalidCalendar : PySem.W.kitOne K (.ref C_InvalidSlip) (.ref C_InvalidCalendar) = some false)
    (kit_InvalidSlip_InvalidPlan : PySem.W.kitOne K (.ref C_InvalidSlip) (.ref C_InvalidPlan) = some false)
    (kit_InvalidSlip_InvalidFault : PySem.W.kitOne K (.ref C_InvalidSlip) (.ref C_InvalidFault) = some false)
    (kit_InvalidSlip_InvalidCommand : PySem.W.kitOne K (.ref C_InvalidSlip) (.ref C_InvalidCommand) = some false)
    (kit_InvalidSlip_RingError : PySem.W.kitOne K (.ref C_InvalidSlip) (.ref C_RingError) = some true)
    (kit_InvalidSlip_ValueError : PySem.W.kitOne K (.ref C_InvalidSlip) (.type "ValueError") = some true)
    (kit_InvalidCalendar_InvalidText : PySem.W.kitOne K (.ref C_InvalidCalendar) (.ref C_InvalidText) = some false)
    (kit_InvalidCalendar_InvalidRows : PySem.W.kitOne K (.ref C_InvalidCalendar) (.ref C_InvalidRows) = some false)
    (kit_InvalidCalendar_Refused : PySem.W.kitOne K (.ref C_InvalidCalendar) (.ref C_Refused) = some false)
    (kit_InvalidCalendar_NoBlock : PySem.W.kitOne K (.ref C_InvalidCalendar) (.ref C_NoBlock) = some false)
    (kit_InvalidCalendar_InvalidForm : PySem.W.kitOne K (.ref C_InvalidCalendar) (.ref C_InvalidForm) = some false)
    (kit_InvalidCalendar_InvalidLane : PySem.W.kitOne K (.ref C_InvalidCalendar) (.ref C_InvalidLane) = some false)
    (kit_InvalidCalendar_InvalidBlock : PySem.W.kitOne K (.ref C_InvalidCalendar) (.ref C_InvalidBlock) = some false)
    (kit_InvalidCalendar_InvalidSlip : PySem.W.kitOne K (.ref C_InvalidCalendar) (.ref C_InvalidSlip) = some false)
    (kit_InvalidCalendar_InvalidCalendar : PySem.W.kitOne K (.ref C_InvalidCalendar) (.ref C_InvalidCalendar) = some true)
    (kit_InvalidCalendar_InvalidPlan : PySem.W.kitOne K (.ref C_InvalidCalendar) (.ref C_InvalidPlan) = some false)
    (kit_InvalidCalendar_InvalidFault : PySem.W.kitOne K (.ref C_InvalidCalendar) (.ref C_InvalidFault) = some false)
    (kit_InvalidCalendar_InvalidCommand : PySem.W.kitOne K (.ref C_InvalidCalendar) (.ref C_InvalidCommand) = some false)
    (kit_InvalidCalendar_RingError : PySem.W.kitOne K (.ref C_InvalidCalendar) (.ref C_RingError) = some true)
    (kit_InvalidCalendar_ValueError : PySem.W.kitOne K (.ref C_InvalidCalendar) (.type "ValueError") = some true)
    (kit_InvalidPlan_InvalidText : PySem.W.kitOne K (.ref C_InvalidPlan) (.ref C_InvalidText) = some false)
    (kit_InvalidPlan_InvalidRows : PySem.W.kitOne K (.ref C_InvalidPlan) (.ref C_InvalidRows) = some false)
    (kit_InvalidPlan_Refused : PySem.W.kitOne K (.ref C_InvalidPlan) (.ref C_Refused) = some false)
    (kit_InvalidPlan_NoBlock : PySem.W.kitOne K (.ref C_InvalidPlan) (.ref C_NoBlock) = some false)
    (kit_InvalidPlan_InvalidForm : PySem.W.kitOne K (.ref C_InvalidPlan) (.ref C_InvalidForm) = some false)
    (kit_InvalidPlan_InvalidLane : PySem.W.kitOne K (.ref C_InvalidPlan) (.ref C_InvalidLane) = some false)
    (kit_InvalidPlan_InvalidBlock : PySem.W.kitOne K (.ref C_InvalidPlan) (.ref C_InvalidBlock) = some false)
    (kit_InvalidPlan_InvalidSlip : PySem.W.kitOne K (.ref C_InvalidPlan) (.ref C_InvalidSlip) = some false)
    (kit_InvalidPlan_InvalidCalendar : PySem.W.kitOne K (.ref C_InvalidPlan) (.ref C_InvalidCalendar) = some false)
    (kit_InvalidPlan_InvalidPlan : PySem.W.kitOne K (.ref C_InvalidPlan) (.ref C_InvalidPlan) = some true)
    (kit_InvalidPlan_InvalidFault : PySem.W.kitOne K (.ref C_InvalidPlan) (.ref C_InvalidFault) = some false)
    (kit_InvalidPlan_InvalidCommand : PySem.W.kitOne K (.ref C_InvalidPlan) (.ref C_InvalidCommand) = some false)
    (kit_InvalidPlan_RingError : PySem.W.kitOne K (.ref C_InvalidPlan) (.ref C_RingError) = some true)
    (kit_InvalidPlan_ValueError : PySem.W.kitOne K (.ref C_InvalidPlan) (.type "ValueError") = some true)
    (kit_InvalidFault_InvalidText : PySem.W.kitOne K (.ref C_InvalidFault) (.ref C_InvalidText) = some false)
    (kit_InvalidFault_InvalidRows : PySem.W.kitOne K (.ref C_InvalidFault) (.ref C_InvalidRows) = some false)
    (kit_InvalidFault_Refused : PySem.W.kitOne K (.ref C_InvalidFault) (.ref C_Refused) = some false)
    (kit_InvalidFault_NoBlock : PySem.W.kitOne K (.ref C_InvalidFault) (.ref C_NoBlock) = some false)
    (kit_InvalidFault_InvalidForm : PySem.W.kitOne K (.ref C_InvalidFault) (.ref C_InvalidForm) = some false)
    (kit_InvalidFault_InvalidLane : PySem.W.kitOne K (.ref C_InvalidFault) (.ref C_InvalidLane) = some false)
    (kit_InvalidFault_InvalidBlock : PySem.W.kitOne K (.ref C_InvalidFault) (.ref C_InvalidBlock) = some false)
    (kit_InvalidFault_InvalidSlip : PySem.W.kitOne K (.ref C_InvalidFault) (.ref C_InvalidSlip) = some false)
    (kit_InvalidFault_InvalidCalendar : PySem.W.kitOne K (.ref C_InvalidFault) (.ref C_InvalidCalendar) = some false)
    (kit_InvalidFault_InvalidPlan : PySem.W.kitOne K (.ref C_InvalidFault) (.ref C_InvalidPlan) = some false)
    (kit_InvalidFault_InvalidFault : PySem.W.kitOne K (.ref C_InvalidFault) (.ref C_InvalidFault) = some true)
    (kit_InvalidFault_InvalidCommand : PySem.W.kitOne K (.ref C_InvalidFault) (.ref C_InvalidCommand) = some false)
    (kit_InvalidFault_RingError : PySem.W.kitOne K (.ref C_InvalidFault) (.ref C_RingError) = some true)
    (kit_InvalidFault_ValueError : PySem.W.kitOne K (.ref C_InvalidFault) (.type "ValueError") = some true)
    (kit_InvalidCommand_InvalidText : PySem.W.kitOne K (.ref C_InvalidCommand) (.ref C_InvalidText) = some false)
    (kit_InvalidCommand_InvalidRows : PySem.W.kitOne K (.ref C_InvalidCommand) (.ref C_InvalidRows) = some false)
    (kit_InvalidCommand_Refused : PySem.W.kitOne K (.ref C_InvalidCommand) (.ref C_Refused) = some false)
    (kit_InvalidCommand_NoBlock : PySem.W.kitOne K (.ref C_InvalidCommand) (.ref C_NoBlock) = some false)
    (kit_InvalidCommand_InvalidForm : PySem.W.kitOne K (.ref C_InvalidCommand) (.ref C_InvalidForm) = some false)
    (kit_InvalidCommand_InvalidLane : PySem.W.kitOne K (.ref C_InvalidCommand) (.ref C_InvalidLane) = some false)
    (kit_InvalidCommand_InvalidBlock : PySem.W.kitOne K (.ref C_InvalidCommand) (.ref C_InvalidBlock) = some false)
    (kit_InvalidCommand_InvalidSlip : PySem.W.kitOne K (.ref C_InvalidCommand) (.ref C_InvalidSlip) = some false)
    (kit_InvalidCommand_InvalidCalendar : PySem.W.kitOne K (.ref C_InvalidCommand) (.ref C_InvalidCalendar) = some false)
    (kit_InvalidCommand_InvalidPlan : PySem.W.kitOne K (.ref C_InvalidCommand) (.ref C_InvalidPlan) = some false)
    (kit_InvalidCommand_InvalidFault : PySem.W.kitOne K (.ref C_InvalidCommand) (.ref C_InvalidFault) = some false)
    (kit_InvalidCommand_InvalidCommand : PySem.W.kitOne K (.ref C_InvalidCommand) (.ref C_InvalidCommand) = some true)
    (kit_InvalidCommand_RingError : PySem.W.kitOne K (.ref C_InvalidCommand) (.ref C_RingError) = some true)
    (kit_InvalidCommand_ValueError : PySem.W.kitOne K (.ref C_InvalidCommand) (.type "ValueError") = some true)
    {f9 : Addr} {od9 an9 : Option Addr} {sl9 : Array (Option Value)} {oc9 kV9 dc9 pm9 cd9 ct9 : Value}
    (l9 : K.lookup f9 = some ⟨oc9, od9, .func (PySem.W.fnOf "_law_box" "_law_box" (defArgs s__law_box) (defBody s__law_box) (defScope s__law_box) .none kV9 dc9 pm9 an9 cd9 ct9), sl9⟩) (c9 : PySem.W.codeIn K cd9 "_law_box" = true) (k9 : PySem.W.keepIn K (.ref f9) = true)
    (a9 : PySem.W.nsIn K mainGlobals "_law_box" = some (some (.ref f9)))
    {f10 : Addr} {od10 an10 : Option Addr} {sl10 : Array (Option Value)} {oc10 kV10 dc10 pm10 cd10 ct10 : Value}
    (l10 : K.lookup f10 = some ⟨oc10, od10, .func (PySem.W.fnOf "_law_take" "_law_take" (defArgs s__law_take) (defBody s__law_take) (defScope s__law_take) .none kV10 dc10 pm10 an10 cd10 ct10), sl10⟩) (c10 : PySem.W.codeIn K cd10 "_law_take" = true) (k10 : PySem.W.keepIn K (.ref f10) = true)
    (a10 : PySem.W.nsIn K mainGlobals "_law_take" = some (some (.ref f10)))
    {f11 : Addr} {od11 an11 : Option Addr} {sl11 : Array (Option Value)} {oc11 kV11 dc11 pm11 cd11 ct11 : Value}
    (l11 : K.lookup f11 = some ⟨oc11, od11, .func (PySem.W.fnOf "_law_pick" "_law_pick" (defArgs s__law_pick) (defBody s__law_pick) (defScope s__law_pick) .none kV11 dc11 pm11 an11 cd11 ct11), sl11⟩) (c11 : PySem.W.codeIn K cd11 "_law_pick" = true) (k11 : PySem.W.keepIn K (.ref f11) = true)
    (a11 : PySem.W.nsIn K mainGlobals "_law_pick" = some (some (.ref f11)))
    {f12 : Addr} {od12 an12 : Option Addr} {sl12 : Array (Option Value)} {oc12 kV12 dc12 pm12 cd12 ct12 : Value}
    (l12 : K.lookup f12 = some ⟨oc12, od12, .func (PySem.W.fnOf "_law_any" "_law_any" (defArgs s__law_any) (defBody s__law_any) (defScope s__law_any) .none kV12 dc12 pm12 an12 cd12 ct12), sl12⟩) (c12 : PySem.W.codeIn K cd12 "_law_any" = true) (k12 : PySem.W.keepIn K (.ref f12) = true)
    (a12 : PySem.W.nsIn K mainGlobals "_law_any" = some (some (.ref f12)))
    {f13 : Addr} {od13 an13 : Option Addr} {sl13 : Array (Option Value)} {oc13 kV13 dc13 pm13 cd13 ct13 : Value}
    (l13 : K.lookup f13 = some ⟨oc13, od13, .func (PySem.W.fnOf "_law_made" "_law_made" (defArgs s__law_made) (defBody s__law_made) (defScope s__law_made) .none kV13 dc13 pm13 an13 cd13 ct13), sl13⟩) (c13 : PySem.W.codeIn K cd13 "_law_made" = true) (k13 : PySem.W.keepIn K (.ref f13) = true)
    (a13 : PySem.W.nsIn K mainGlobals "_law_made" = some (some (.ref f13)))
    {f14 : Addr} {od14 an14 : Option Addr} {sl14 : Array (Option Value)} {oc14 kV14 dc14 pm14 cd14 ct14 : Value}
    (l14 : K.lookup f14 = some ⟨oc14, od14, .func (PySem.W.fnOf "_law_sorts" "_law_sorts" (defArgs s__law_sorts) (defBody s__law_sorts) (defScope s__law_sorts) .none kV14 dc14 pm14 an14 cd14 ct14), sl14⟩) (c14 : PySem.W.codeIn K cd14 "_law_sorts" = true) (k14 : PySem.W.keepIn K (.ref f14) = true)
    (a14 : PySem.W.nsIn K mainGlobals "_law_sorts" = some (some (.ref f14)))
    {f15 : Addr} {od15 an15 : Option Addr} {sl15 : Array (Option Value)} {oc15 kV15 dc15 pm15 cd15 ct15 : Value}
    (l15 : K.lookup f15 = some ⟨oc15, od15, .func (PySem.W.fnOf "_law_is_kept" "_law_is_kept" (defArgs s__law_is_kept) (defBody s__law_is_kept) (defScope s__law_is_kept) .none kV15 dc15 pm15 an15 cd15 ct15), sl15⟩) (c15 : PySem.W.codeIn K cd15 "_law_is_kept" = true) (k15 : PySem.W.keepIn K (.ref f15) = true)
    (a15 : PySem.W.nsIn K mainGlobals "_law_is_kept" = some (some (.ref f15)))
    {f16 : Addr} {od16 an16 : Option Addr} {sl16 : Array (Option Value)} {oc16 kV16 dc16 pm16 cd16 ct16 : Value}
    (l16 : K.lookup f16 = some ⟨oc16, od16, .func (PySem.W.fnOf "law" "law" (defArgs s_law) (defBody s_law) (defScope s_law) .none kV16 dc16 pm16 an16 cd16 ct16), sl16⟩) (c16 : PySem.W.codeIn K cd16 "law" = true) (k16 : PySem.W.keepIn K (.ref f16) = true)
    (a16 : PySem.W.nsIn K mainGlobals "law" = some (some (.ref f16)))
    (z_IndexError : PySem.W.nsIn K mainGlobals "IndexError" = some none)
    (z_ValueError : PySem.W.nsIn K mainGlobals "ValueError" = some none)
    (z_abs : PySem.W.nsIn K mainGlobals "abs" = some none)
    (z_enumerate : PySem.W.nsIn K mainGlobals "enumerate" = some none)
    (z_int : PySem.W.nsIn K mainGlobals "int" = some none)
    (z_isinstance : PySem.W.nsIn K mainGlobals "isinstance" = some none)
    (z_len : PySem.W.nsIn K mainGlobals "len" = some none)
    (z_max : PySem.W.nsIn K mainGlobals "max" = some none)
    (z_min : PySem.W.nsIn K mainGlobals "min" = some none)
    (z_range : PySem.W.nsIn K mainGlobals "range" = some none)
    (z_repr : PySem.W.nsIn K mainGlobals "repr" = some none)
    (z_tuple : PySem.W.nsIn K mainGlobals "tuple" = some none)
    : ∃ fd : FuncData, (∀ (s : Shared) (v : Value), BindsTo s fd ⟨[v], []⟩ [("_law_script", v)]) ∧ ∀ base : Heap, K.In base → base.Ns mainGlobals mg → At callerA l.prog w K mg base CX0 8 fa ["_law_script"] fd (spLaw K) := by
  have e := hfa.symm.trans (PySem.W.mg_of X G a16)
  cases e
  let T : Txt K mg := {
    c_RingError := C_RingError, m_RingError := PySem.W.mg_of X G aC_RingError,
    c_InvalidForm := C_InvalidForm, m_InvalidForm := PySem.W.mg_of X G aC_InvalidForm,
    a_InvalidForm___init__ := f0, d_InvalidForm___init__ := _, F_InvalidForm___init__ := fun_mk (st := s_InvalidForm___init__) l0 c0 k0, b_InvalidForm___init__ := (fun_mk (st := s_InvalidForm___init__) l0 c0 k0).binds (ps := ["self", "word"]) (fun _ _ _ _ _ _ us hl => match us, hl with | [_, _], _ => rfl), k_InvalidForm___init__ := k0,
    x_InvalidForm := ⟨⟨_, _, _, _, _, _, _, _, _, _, _, _, _, _, _, xL_InvalidForm, by first | rfl | decide +kernel⟩, sa_InvalidForm, eC_InvalidForm, tC_InvalidForm, kC_InvalidForm⟩, X_InvalidForm := ⟨cl_InvalidForm, ga_InvalidForm, gg_InvalidForm, eC_InvalidForm, ca_InvalidForm, spec, takes, mo_InvalidForm⟩, f_InvalidForm := ⟨ga_InvalidForm, gg_InvalidForm, eC_InvalidForm, hC_InvalidForm⟩,
    n_InvalidForm := nw_InvalidForm, i_InvalidForm := iC_InvalidForm, t_InvalidForm := iT_InvalidForm, e_InvalidForm := PySem.W.exm_ref eC_InvalidForm hC_InvalidForm tC_InvalidForm sC_InvalidForm,
    c_InvalidLane := C_InvalidLane, m_InvalidLane := PySem.W.mg_of X G aC_InvalidLane,
    a_InvalidLane___init__ := f1, d_InvalidLane___init__ := _, F_InvalidLane___init__ := fun_mk (st := s_InvalidLane___init__) l1 c1 k1, b_InvalidLane___init__ := (fun_mk (st := s_InvalidLane___init__) l1 c1 k1).binds (ps := ["self", "word"]) (fun _ _ _ _ _ _ us hl => match us, hl with | [_, _], _ => rfl), k_InvalidLane___init__ := k1,
    x_InvalidLane := ⟨⟨_, _, _, _, _, _, _, _, _, _, _, _, _, _, _, xL_InvalidLane, by first | rfl | decide +kernel⟩, sa_InvalidLane, eC_InvalidLane, tC_InvalidLane, kC_InvalidLane⟩, X_InvalidLane := ⟨cl_InvalidLane, ga_InvalidLane, gg_InvalidLane, eC_InvalidLane, ca_InvalidLane, spec, takes, mo_InvalidLane⟩, f_InvalidLane := ⟨ga_InvalidLane, gg_InvalidLane, eC_InvalidLane, hC_InvalidLane⟩,
    n_InvalidLane := nw_InvalidLane, i_InvalidLane := iC_InvalidLane, t_InvalidLane := iT_InvalidLane, e_InvalidLane := PySem.W.exm_ref eC_InvalidLane hC_InvalidLane tC_InvalidLane sC_InvalidLane,
    c_InvalidBlock := C_InvalidBlock, m_InvalidBlock := PySem.W.mg_of X G aC_InvalidBlock,
    a_InvalidBlock___init__ := f2, d_InvalidBlock___init__ := _, F_InvalidBlock___init__ := fun_mk (st := s_InvalidBlock___init__) l2 c2 k2, b_InvalidBlock___init__ := (fun_mk (st := s_InvalidBlock___init__) l2 c2 k2).binds (ps := ["self", "word"]) (fun _ _ _ _ _ _ us hl => match us, hl with | [_, _], _ => rfl), k_InvalidBlock___init__ := k2,
    x_InvalidBlock := ⟨⟨_, _, _, _, _, _, _, _, _, _, _, _, _, _, _, xL_InvalidBlock, by first | rfl | decide +kernel⟩, sa_InvalidBlock, eC_InvalidBlock, tC_InvalidBlock, kC_InvalidBlock⟩, X_InvalidBlock := ⟨cl_InvalidBlock, ga_InvalidBlock, gg_InvalidBlock, eC_InvalidBlock, ca_InvalidBlock, spec, takes, mo_InvalidBlock⟩, f_InvalidBlock := ⟨ga_InvalidBlock, gg_InvalidBlock, eC_InvalidBlock, hC_InvalidBlock⟩,
    n_InvalidBlock := nw_InvalidBlock, i_InvalidBlock := iC_InvalidBlock, t_InvalidBlock := iT_InvalidBlock, e_InvalidBlock := PySem.W.exm_ref eC_InvalidBlock hC_InvalidBlock tC_InvalidBlock sC_InvalidBlock,
    c_InvalidPlan := C_InvalidPlan, m_InvalidPlan := PySem.W.mg_of X G aC_InvalidPlan,
    X_InvalidPlan := ⟨cl_InvalidPlan, ga_InvalidPlan, gg_InvalidPlan, eC_InvalidPlan, ca_InvalidPlan, spec, takes, mo_InvalidPlan⟩,
    q_InvalidPlan := xq_InvalidPlan, k_InvalidPlan := kC_InvalidPlan, r1_InvalidPlan := eC_InvalidPlan, r2_InvalidPlan := tC_InvalidPlan, E_InvalidPlan := ⟨ga_InvalidPlan, gg_InvalidPlan, eC_InvalidPlan, hC_InvalidPlan, ca_InvalidPlan, spec, takes, mo_InvalidPlan⟩, e_InvalidPlan := PySem.W.exm_ref eC_InvalidPlan hC_InvalidPlan tC_InvalidPlan sC_InvalidPlan,
    c_InvalidText := C_InvalidText, m_InvalidText := PySem.W.mg_of X G aC_InvalidText,
    a_InvalidText___init__ := f3, d_InvalidText___init__ := _, F_InvalidText___init__ := fun_mk (st := s_InvalidText___init__) l3 c3 k3, b_InvalidText___init__ := (fun_mk (st := s_InvalidText___init__) l3 c3 k3).binds (ps := ["self", "at"]) (fun _ _ _ _ _ _ us hl => match us, hl with | [_, _], _ => rfl), k_InvalidText___init__ := k3,
    x_InvalidText := ⟨⟨_, _, _, _, _, _, _, _, _, _, _, _, _, _, _, xL_InvalidText, by first | rfl | decide +kernel⟩, sa_InvalidText, eC_InvalidText, tC_InvalidText, kC_InvalidText⟩, X_InvalidText := ⟨cl_InvalidText, ga_InvalidText, gg_InvalidText, eC_InvalidText, ca_InvalidText, spec, takes, mo_InvalidText⟩, f_InvalidText := ⟨ga_InvalidText, gg_InvalidText, eC_InvalidText, hC_InvalidText⟩,
    n_InvalidText := nw_InvalidText, i_InvalidText := iC_InvalidText, t_InvalidText := iT_InvalidText, e_InvalidText := PySem.W.exm_ref eC_InvalidText hC_InvalidText tC_InvalidText sC_InvalidText,
    c_InvalidRows := C_InvalidRows, m_InvalidRows := PySem.W.mg_of X G aC_InvalidRows,
    a_InvalidRows___init__ := f4, d_InvalidRows___init__ := _, F_InvalidRows___init__ := fun_mk (st := s_InvalidRows___init__) l4 c4 k4, b_InvalidRows___init__ := (fun_mk (st := s_InvalidRows___init__) l4 c4 k4).binds (ps := ["self", "at"]) (fun _ _ _ _ _ _ us hl => match us, hl with | [_, _], _ => rfl), k_InvalidRows___init__ := k4,
    x_InvalidRows := ⟨⟨_, _, _, _, _, _, _, _, _, _, _, _, _, _, _, xL_InvalidRows, by first | rfl | decide +kernel⟩, sa_InvalidRows, eC_InvalidRows, tC_InvalidRows, kC_InvalidRows⟩, X_InvalidRows := ⟨cl_InvalidRows, ga_InvalidRows, gg_InvalidRows, eC_InvalidRows, ca_InvalidRows, spec, takes, mo_InvalidRows⟩, f_InvalidRows := ⟨ga_InvalidRows, gg_InvalidRows, eC_InvalidRows, hC_InvalidRows⟩,
    n_InvalidRows := nw_InvalidRows, i_InvalidRows := iC_InvalidRows, t_InvalidRows := iT_InvalidRows, e_InvalidRows := PySem.W.exm_ref eC_InvalidRows hC_InvalidRows tC_InvalidRows sC_InvalidRows,
    c_InvalidSlip := C_InvalidSlip, m_InvalidSlip := PySem.W.mg_of X G aC_InvalidSlip,
    a_InvalidSlip___init__ := f5, d_InvalidSlip___init__ := _, F_InvalidSlip___init__ := fun_mk (st := s_InvalidSlip___init__) l5 c5 k5, b_InvalidSlip___init__ := (fun_mk (st := s_InvalidSlip___init__) l5 c5 k5).binds (ps := ["self", "word"]) (fun _ _ _ _ _ _ us hl => match us, hl with | [_, _], _ => rfl), k_InvalidSlip___init__ := k5,
    x_InvalidSlip := ⟨⟨_, _, _, _, _, _, _, _, _, _, _, _, _, _, _, xL_InvalidSlip, by first | rfl | decide +kernel⟩, sa_InvalidSlip, eC_InvalidSlip, tC_InvalidSlip, kC_InvalidSlip⟩, X_InvalidSlip := ⟨cl_InvalidSlip, ga_InvalidSlip, gg_InvalidSlip, eC_InvalidSlip, ca_InvalidSlip, spec, takes, mo_InvalidSlip⟩, f_InvalidSlip := ⟨ga_InvalidSlip, gg_InvalidSlip, eC_InvalidSlip, hC_InvalidSlip⟩,
    n_InvalidSlip := nw_InvalidSlip, i_InvalidSlip := iC_InvalidSlip, t_InvalidSlip := iT_InvalidSlip, e_InvalidSlip := PySem.W.exm_ref eC_InvalidSlip hC_InvalidSlip tC_InvalidSlip sC_InvalidSlip,
    c_InvalidCalendar := C_InvalidCalendar, m_InvalidCalendar := PySem.W.mg_of X G aC_InvalidCalendar,
    a_InvalidCalendar___init__ := f6, d_InvalidCalendar___init__ := _, F_InvalidCalendar___init__ := fun_mk (st := s_InvalidCalendar___init__) l6 c6 k6, b_InvalidCalendar___init__ := (fun_mk (st := s_InvalidCalendar___init__) l6 c6 k6).binds (ps := ["self", "word"]) (fun _ _ _ _ _ _ us hl => match us, hl with | [_, _], _ => rfl), k_InvalidCalendar___init__ := k6,
    x_InvalidCalendar := ⟨⟨_, _, _, _, _, _, _, _, _, _, _, _, _, _, _, xL_InvalidCalendar, by first | rfl | decide +kernel⟩, sa_InvalidCalendar, eC_InvalidCalendar, tC_InvalidCalendar, kC_InvalidCalendar⟩, X_InvalidCalendar := ⟨cl_InvalidCalendar, ga_InvalidCalendar, gg_InvalidCalendar, eC_InvalidCalendar, ca_InvalidCalendar, spec, takes, mo_InvalidCalendar⟩, f_InvalidCalendar := ⟨ga_InvalidCalendar, gg_InvalidCalendar, eC_InvalidCalendar, hC_InvalidCalendar⟩,
    n_InvalidCalendar := nw_InvalidCalendar, i_InvalidCalendar := iC_InvalidCalendar, t_InvalidCalendar := iT_InvalidCalendar, e_InvalidCalendar := PySem.W.exm_ref eC_InvalidCalendar hC_InvalidCalendar tC_InvalidCalendar sC_InvalidCalendar,
    c_InvalidFault := C_InvalidFault, m_InvalidFault := PySem.W.mg_of X G aC_InvalidFault,
    X_InvalidFault := ⟨cl_InvalidFault, ga_InvalidFault, gg_InvalidFault, eC_InvalidFault, ca_InvalidFault, spec, takes, mo_InvalidFault⟩,
    q_InvalidFault := xq_InvalidFault, k_InvalidFault := kC_InvalidFault, r1_InvalidFault := eC_InvalidFault, r2_InvalidFault := tC_InvalidFault, E_InvalidFault := ⟨ga_InvalidFault, gg_InvalidFault, eC_InvalidFault, hC_InvalidFault, ca_InvalidFault, spec, takes, mo_InvalidFault⟩, e_InvalidFault := PySem.W.exm_ref eC_InvalidFault hC_InvalidFault tC_InvalidFault sC_InvalidFault,
    c_InvalidCommand := C_InvalidCommand, m_InvalidCommand := PySem.W.mg_of X G aC_InvalidCommand,
    X_InvalidCommand := ⟨cl_InvalidCommand, ga_InvalidCommand, gg_InvalidCommand, eC_InvalidCommand, ca_InvalidCommand, spec, takes, mo_InvalidCommand⟩,
    q_InvalidCommand := xq_InvalidCommand, k_InvalidCommand := kC_InvalidCommand, r1_InvalidCommand := eC_InvalidCommand, r2_InvalidCommand := tC_InvalidCommand, E_InvalidCommand := ⟨ga_InvalidCommand, gg_InvalidCommand, eC_InvalidCommand, hC_InvalidCommand, ca_InvalidCommand, spec, takes, mo_InvalidCommand⟩, e_InvalidCommand := PySem.W.exm_ref eC_InvalidCommand hC_InvalidCommand tC_InvalidCommand sC_InvalidCommand,
    c_Refused := C_Refused, m_Refused := PySem.W.mg_of X G aC_Refused,
    a_Refused___init__ := f7, d_Refused___init__ := _, F_Refused___init__ := fun_mk (st := s_Refused___init__) l7 c7 k7, b_Refused___init__ := (fun_mk (st := s_Refused___init__) l7 c7 k7).binds (ps := ["self", "at"]) (fun _ _ _ _ _ _ us hl => match us, hl with | [_, _], _ => rfl), k_Refused___init__ := k7,
    x_Refused := ⟨⟨_, _, _, _, _, _, _, _, _, _, _, _, _, _, _, xL_Refused, by first | rfl | decide +kernel⟩, sa_Refused, eC_Refused, tC_Refused, kC_Refused⟩, X_Refused := ⟨cl_Refused, ga_Refused, gg_Refused, eC_Refused, ca_Refused, spec, takes, mo_Refused⟩, f_Refused := ⟨ga_Refused, gg_Refused, eC_Refused, hC_Refused⟩,
    n_Refused := nw_Refused, i_Refused := iC_Refused, t_Refused := iT_Refused, e_Refused := PySem.W.exm_ref eC_Refused hC_Refused tC_Refused sC_Refused,
    c_NoBlock := C_NoBlock, m_NoBlock := PySem.W.mg_of X G aC_NoBlock,
    a_NoBlock___init__ := f8, d_NoBlock___init__ := _, F_NoBlock___init__ := fun_mk (st := s_NoBlock___init__) l8 c8 k8, b_NoBlock___init__ := (fun_mk (st := s_NoBlock___init__) l8 c8 k8).binds (ps := ["self", "at"]) (fun _ _ _ _ _ _ us hl => match us, hl with | [_, _], _ => rfl), k_NoBlock___init__ := k8,
    x_NoBlock := ⟨⟨_, _, _, _, _, _, _, _, _, _, _, _, _, _, xL_NoBlock⟩, sa_NoBlock, eC_NoBlock, tC_NoBlock, kC_NoBlock⟩, X_NoBlock := ⟨cl_NoBlock, ga_NoBlock, gg_NoBlock, eC_NoBlock, ca_NoBlock, spec, takes, mo_NoBlock⟩, f_NoBlock := ⟨ga_NoBlock, gg_NoBlock, eC_NoBlock, hC_NoBlock⟩,
    n_NoBlock := nw_NoBlock, i_NoBlock := iC_NoBlock, t_NoBlock := iT_NoBlock, e_NoBlock := PySem.W.exm_ref eC_NoBlock hC_NoBlock tC_NoBlock sC_NoBlock,
    kit_InvalidText_InvalidText := kit_InvalidText_InvalidText,
    kit_InvalidText_InvalidRows := kit_InvalidText_InvalidRows,
    kit_InvalidText_Refused := kit_InvalidText_Refused,
    kit_InvalidText_NoBlock := kit_InvalidText_NoBlock,
    kit_InvalidText_InvalidForm := kit_InvalidText_InvalidForm,
    kit_InvalidText_InvalidLane := kit_InvalidText_InvalidLane,
    kit_InvalidText_InvalidBlock := kit_InvalidText_InvalidBlock,
    kit_InvalidText_InvalidSlip := kit_InvalidText_InvalidSlip,
    kit_InvalidText_InvalidCalendar := kit_InvalidText_InvalidCalendar,
    kit_InvalidText_InvalidPlan := kit_InvalidText_InvalidPlan,
    kit_InvalidText_InvalidFault := kit_InvalidText_InvalidFault,
    kit_InvalidText_InvalidCommand := kit_InvalidText_InvalidCommand,
    kit_InvalidText_RingError := kit_InvalidText_RingError,
    kit_InvalidText_ValueError := kit_InvalidText_ValueError,
    kit_InvalidRows_InvalidText := kit_InvalidRows_InvalidText,
    kit_InvalidRows_InvalidRows := kit_InvalidRows_InvalidRows,
    kit_InvalidRows_Refused := kit_InvalidRows_Refused,
    kit_InvalidRows_NoBlock := kit_InvalidRows_NoBlock,
    kit_InvalidRows_InvalidForm := kit_InvalidRows_InvalidForm,
    kit_InvalidRows_InvalidLane := kit_InvalidRows_InvalidLane,
    kit_InvalidRows_InvalidBlock := kit_InvalidRows_InvalidBlock,
    kit_InvalidRows_InvalidSlip := kit_InvalidRows_InvalidSlip,
    kit_InvalidRows_InvalidCalendar := kit_InvalidRows_InvalidCalendar,
    kit_InvalidRows_InvalidPlan := kit_InvalidRows_InvalidPlan,
    kit_InvalidRows_InvalidFault := kit_InvalidRows_InvalidFault,
    kit_InvalidRows_InvalidCommand := kit_InvalidRows_InvalidCommand,
    kit_InvalidRows_RingError := kit_InvalidRows_RingError,
    kit_InvalidRows_ValueError := kit_InvalidRows_ValueError,
    kit_Refused_InvalidText := kit_Refused_InvalidText,
    kit_Refused_InvalidRows := kit_Refused_InvalidRows,
    kit_Refused_Refused := kit_Refused_Refused,
    kit_Refused_NoBlock := kit_Refused_NoBlock,
    kit_Refused_InvalidForm := kit_Refused_InvalidForm,
    kit_Refused_InvalidLane := kit_Refused_InvalidLane,
    kit_Refused_InvalidBlock := kit_Refused_InvalidBlock,
    kit_Refused_InvalidSlip := kit_Refused_InvalidSlip,
    kit_Refused_InvalidCalendar := kit_Refused_InvalidCalendar,
    kit_Refused_InvalidPlan := kit_Refused_InvalidPlan,
    kit_Refused_InvalidFault := kit_Refused_InvalidFault,
    kit_Refused_InvalidCommand := kit_Refused_InvalidCommand,
    kit_Refused_RingError := kit_Refused_RingError,
    kit_Refused_ValueError := kit_Refused_ValueError,
    kit_NoBlock_InvalidText := kit_NoBlock_InvalidText,
    kit_NoBlock_InvalidRows := kit_NoBlock_InvalidRows,
    kit_NoBlock_Refused := kit_NoBlock_Refused,
    kit_NoBlock_NoBlock := kit_NoBlock_NoBlock,
    kit_NoBlock_InvalidForm := kit_NoBlock_InvalidForm,
    kit_NoBlock_InvalidLane := kit_NoBlock_InvalidLane,
    kit_NoBlock_InvalidBlock := kit_NoBlock_InvalidBlock,
    kit_NoBlock_InvalidSlip := kit_NoBlock_InvalidSlip,
    kit_NoBlock_InvalidCalendar := kit_NoBlock_InvalidCalendar,
    kit_NoBlock_InvalidPlan := kit_NoBlock_InvalidPlan,
    kit_NoBlock_InvalidFault := kit_NoBlock_InvalidFault,
    kit_NoBlock_InvalidCommand := kit_NoBlock_InvalidCommand,
    kit_NoBlock_RingError := kit_NoBlock_RingError,
    kit_NoBlock_IndexError := kit_NoBlock_IndexError,
    kit_InvalidForm_InvalidText := kit_InvalidForm_InvalidText,
    kit_InvalidForm_InvalidRows := kit_InvalidForm_InvalidRows,
    kit_InvalidForm_Refused := kit_InvalidForm_Refused,
    kit_InvalidForm_NoBlock := kit_InvalidForm_NoBlock,
    kit_InvalidForm_InvalidForm := kit_InvalidForm_InvalidForm,
    kit_InvalidForm_InvalidLane := kit_InvalidForm_InvalidLane,
    kit_InvalidForm_InvalidBlock := kit_InvalidForm_InvalidBlock,
    kit_InvalidForm_InvalidSlip := kit_InvalidForm_InvalidSlip,
    kit_InvalidForm_InvalidCalendar := kit_InvalidForm_InvalidCalendar,
    kit_InvalidForm_InvalidPlan := kit_InvalidForm_InvalidPlan,
    kit_InvalidForm_InvalidFault := kit_InvalidForm_InvalidFault,
    kit_InvalidForm_InvalidCommand := kit_InvalidForm_InvalidCommand,
    kit_InvalidForm_RingError := kit_InvalidForm_RingError,
    kit_InvalidForm_ValueError := kit_InvalidForm_ValueError,
    kit_InvalidLane_InvalidText := kit_InvalidLane_InvalidText,
    kit_InvalidLane_InvalidRows := kit_InvalidLane_InvalidRows,
    kit_InvalidLane_Refused := kit_InvalidLane_Refused,
    kit_InvalidLane_NoBlock := kit_InvalidLane_NoBlock,
    kit_InvalidLane_InvalidForm := kit_InvalidLane_InvalidForm,
    kit_InvalidLane_InvalidLane := kit_InvalidLane_InvalidLane,
    kit_InvalidLane_InvalidBlock := kit_InvalidLane_InvalidBlock,
    kit_InvalidLane_InvalidSlip := kit_InvalidLane_InvalidSlip,
    kit_InvalidLane_InvalidCalendar := kit_InvalidLane_InvalidCalendar,
    kit_InvalidLane_InvalidPlan := kit_InvalidLane_InvalidPlan,
    kit_InvalidLane_InvalidFault := kit_InvalidLane_InvalidFault,
    kit_InvalidLane_InvalidCommand := kit_InvalidLane_InvalidCommand,
    kit_InvalidLane_RingError := kit_InvalidLane_RingError,
    kit_InvalidLane_ValueError := kit_InvalidLane_ValueError,
    kit_InvalidBlock_InvalidText := kit_InvalidBlock_InvalidText,
    kit_InvalidBlock_InvalidRows := kit_InvalidBlock_InvalidRows,
    kit_InvalidBlock_Refused := kit_InvalidBlock_Refused,
    kit_InvalidBlock_NoBlock := kit_InvalidBlock_NoBlock,
    kit_InvalidBlock_InvalidForm := kit_InvalidBlock_InvalidForm,
    kit_InvalidBlock_InvalidLane := kit_InvalidBlock_InvalidLane,
    kit_InvalidBlock_InvalidBlock := kit_InvalidBlock_InvalidBlock,
    kit_InvalidBlock_InvalidSlip := kit_InvalidBlock_InvalidSlip,
    kit_InvalidBlock_InvalidCalendar := kit_InvalidBlock_InvalidCalendar,
    kit_InvalidBlock_InvalidPlan := kit_InvalidBlock_InvalidPlan,
    kit_InvalidBlock_InvalidFault := kit_InvalidBlock_InvalidFault,
    kit_InvalidBlock_InvalidCommand := kit_InvalidBlock_InvalidCommand,
    kit_InvalidBlock_RingError := kit_InvalidBlock_RingError,
    kit_InvalidBlock_ValueError := kit_InvalidBlock_ValueError,
    kit_InvalidSlip_InvalidText := kit_InvalidSlip_InvalidText,
    kit_InvalidSlip_InvalidRows := kit_InvalidSlip_InvalidRows,
    kit_InvalidSlip_Refused := kit_InvalidSlip_Refused,
    kit_InvalidSlip_NoBlock := kit_InvalidSlip_NoBlock,
    kit_InvalidSlip_InvalidForm := kit_InvalidSlip_InvalidForm,
    kit_InvalidSlip_InvalidLane := kit_InvalidSlip_InvalidLane,
    kit_InvalidSlip_InvalidBlock := kit_InvalidSlip_InvalidBlock,
    kit_InvalidSlip_InvalidSlip := kit_InvalidSlip_InvalidSlip,
    kit_InvalidSlip_InvalidCalendar := kit_InvalidSlip_InvalidCalendar,
    kit_InvalidSlip_InvalidPlan := kit_InvalidSlip_InvalidPlan,
    kit_InvalidSlip_InvalidFault := kit_InvalidSlip_InvalidFault,
    kit_InvalidSlip_InvalidCommand := kit_InvalidSlip_InvalidCommand,
    kit_InvalidSlip_RingError := kit_InvalidSlip_RingError,
    kit_InvalidSlip_ValueError := kit_InvalidSlip_ValueError,
    kit_InvalidCalendar_InvalidText := kit_InvalidCalendar_InvalidText,
    kit_InvalidCalendar_InvalidRows := kit_InvalidCalendar_InvalidRows,
    kit_InvalidCalendar_Refused := kit_InvalidCalendar_Refused,
    kit_InvalidCalendar_NoBlock := kit_InvalidCalendar_NoBlock,
    kit_InvalidCalendar_InvalidForm := kit_InvalidCalendar_InvalidForm,
    kit_InvalidCalendar_InvalidLane := kit_InvalidCalendar_InvalidLane,
    kit_InvalidCalendar_InvalidBlock := kit_InvalidCalendar_InvalidBlock,
    kit_InvalidCalendar_InvalidSlip := kit_InvalidCalendar_InvalidSlip,
    kit_InvalidCalendar_InvalidCalendar := kit_InvalidCalendar_InvalidCalendar,
    kit_InvalidCalendar_InvalidPlan := kit_InvalidCalendar_InvalidPlan,
    kit_InvalidCalendar_InvalidFault := kit_InvalidCalendar_InvalidFault,
    kit_InvalidCalendar_InvalidCommand := kit_InvalidCalendar_InvalidCommand,
    kit_InvalidCalendar_RingError := kit_InvalidCalendar_RingError,
    kit_InvalidCalendar_ValueError := kit_InvalidCalendar_ValueError,
    kit_InvalidPlan_InvalidText := kit_InvalidPlan_InvalidText,
    kit_InvalidPlan_InvalidRows := kit_InvalidPlan_InvalidRows,
    kit_InvalidPlan_Refused := kit_InvalidPlan_Refused,
    kit_InvalidPlan_NoBlock := kit_InvalidPlan_NoBlock,
    kit_InvalidPlan_InvalidForm := kit_InvalidPlan_InvalidForm,
    kit_InvalidPlan_InvalidLane := kit_InvalidPlan_InvalidLane,
    kit_InvalidPlan_InvalidBlock := kit_InvalidPlan_InvalidBlock,
    kit_InvalidPlan_InvalidSlip := kit_InvalidPlan_InvalidSlip,
    kit_InvalidPlan_InvalidCalendar := kit_InvalidPlan_InvalidCalendar,
    kit_InvalidPlan_InvalidPlan := kit_InvalidPlan_InvalidPlan,
    kit_InvalidPlan_InvalidFault := kit_InvalidPlan_InvalidFault,
    kit_InvalidPlan_InvalidCommand := kit_InvalidPlan_InvalidCommand,
    kit_InvalidPlan_RingError := kit_InvalidPlan_RingError,
    kit_InvalidPlan_ValueError := kit_InvalidPlan_ValueError,
    kit_InvalidFault_InvalidText := kit_InvalidFault_InvalidText,
    kit_InvalidFault_InvalidRows := kit_InvalidFault_InvalidRows,
    kit_InvalidFault_Refused := kit_InvalidFault_Refused,
    kit_InvalidFault_NoBlock := kit_InvalidFault_NoBlock,
    kit_InvalidFault_InvalidForm := kit_InvalidFault_InvalidForm,
    kit_InvalidFault_InvalidLane := kit_InvalidFault_InvalidLane,
    kit_InvalidFault_InvalidBlock := kit_InvalidFault_InvalidBlock,
    kit_InvalidFault_InvalidSlip := kit_InvalidFault_InvalidSlip,
    kit_InvalidFault_InvalidCalendar := kit_InvalidFault_InvalidCalendar,
    kit_InvalidFault_InvalidPlan := kit_InvalidFault_InvalidPlan,
    kit_InvalidFault_InvalidFault := kit_InvalidFault_InvalidFault,
    kit_InvalidFault_InvalidCommand := kit_InvalidFault_InvalidCommand,
    kit_InvalidFault_RingError := kit_InvalidFault_RingError,
    kit_InvalidFault_ValueError := kit_InvalidFault_ValueError,
    kit_InvalidCommand_InvalidText := kit_InvalidCommand_InvalidText,
    kit_InvalidCommand_InvalidRows := kit_InvalidCommand_InvalidRows,
    kit_InvalidCommand_Refused := kit_InvalidCommand_Refused,
    kit_InvalidCommand_NoBlock := kit_InvalidCommand_NoBlock,
    kit_InvalidCommand_InvalidForm := kit_InvalidCommand_InvalidForm,
    kit_InvalidCommand_InvalidLane := kit_InvalidCommand_InvalidLane,
    kit_InvalidCommand_InvalidBlock := kit_InvalidCommand_InvalidBlock,
    kit_InvalidCommand_InvalidSlip := kit_InvalidCommand_InvalidSlip,
    kit_InvalidCommand_InvalidCalendar := kit_InvalidCommand_InvalidCalendar,
    kit_InvalidCommand_InvalidPlan := kit_InvalidCommand_InvalidPlan,
    kit_InvalidCommand_InvalidFault := kit_InvalidCommand_InvalidFault,
    kit_InvalidCommand_InvalidCommand := kit_InvalidCommand_InvalidCommand,
    kit_InvalidCommand_RingError := kit_InvalidCommand_RingError,
    kit_InvalidCommand_ValueError := kit_InvalidCommand_ValueError,
    a__law_box := f9, d__law_box := _, F__law_box := fun_mk (st := s__law_box) l9 c9 k9, b__law_box := (fun_mk (st := s__law_box) l9 c9 k9).binds (ps := ["_law_script", "_law_k"]) (fun _ _ _ _ _ _ us hl => match us, hl with | [_, _], _ => rfl), k__law_box := k9,
    m__law_box := PySem.W.mg_of X G a9,
    a__law_take := f10, d__law_take := _, F__law_take := fun_mk (st := s__law_take) l10 c10 k10, b__law_take := (fun_mk (st := s__law_take) l10 c10 k10).binds (ps := ["_law_box_here", "_law_many"]) (fun _ _ _ _ _ _ us hl => match us, hl with | [_, _], _ => rfl), k__law_take := k10,
    m__law_take := PySem.W.mg_of X G a10,
    a__law_pick := f11, d__law_pick := _, F__law_pick := fun_mk (st := s__law_pick) l11 c11 k11, b__law_pick := (fun_mk (st := s__law_pick) l11 c11 k11).binds (ps := ["_law_box_here", "_law_some"]) (fun _ _ _ _ _ _ us hl => match us, hl with | [_, _], _ => rfl), k__law_pick := k11,
    m__law_pick := PySem.W.mg_of X G a11,
    a__law_any := f12, d__law_any := _, F__law_any := fun_mk (st := s__law_any) l12 c12 k12, b__law_any := (fun_mk (st := s__law_any) l12 c12 k12).binds (ps := ["_law_box_here", "_law_deep"]) (fun _ _ _ _ _ _ us hl => match us, hl with | [_, _], _ => rfl), k__law_any := k12,
    m__law_any := PySem.W.mg_of X G a12,
    a__law_made := f13, d__law_made := _, F__law_made := fun_mk (st := s__law_made) l13 c13 k13, b__law_made := (fun_mk (st := s__law_made) l13 c13 k13).binds (ps := ["_law_at", "_law_value"]) (fun _ _ _ _ _ _ us hl => match us, hl with | [_, _], _ => rfl), k__law_made := k13,
    m__law_made := PySem.W.mg_of X G a13,
    a__law_sorts := f14, d__law_sorts := _, F__law_sorts := fun_mk (st := s__law_sorts) l14 c14 k14, b__law_sorts := (fun_mk (st := s__law_sorts) l14 c14 k14).binds (ps := ["_law_e"]) (fun _ _ _ _ _ _ us hl => match us, hl with | [_], _ => rfl), k__law_sorts := k14,
    m__law_sorts := PySem.W.mg_of X G a14,
    a__law_is_kept := f15, d__law_is_kept := _, F__law_is_kept := fun_mk (st := s__law_is_kept) l15 c15 k15, b__law_is_kept := (fun_mk (st := s__law_is_kept) l15 c15 k15).binds (ps := ["_law_e", "_law_at", "_law_value"]) (fun _ _ _ _ _ _ us hl => match us, hl with | [_, _, _], _ => rfl), k__law_is_kept := k15,
    m__law_is_kept := PySem.W.mg_of X G a15,
    a_law := fa, d_law := _, F_law := fun_mk (st := s_law) l16 c16 k16, b_law := (fun_mk (st := s_law) l16 c16 k16).binds (ps := ["_law_script"]) (fun _ _ _ _ _ _ us hl => match us, hl with | [_], _ => rfl), k_law := k16,
    m_law := PySem.W.mg_of X G a16,
    z_IndexError := PySem.W.mg_none_of X G z_IndexError, z_ValueError := PySem.W.mg_none_of X G z_ValueError, z_abs := PySem.W.mg_none_of X G z_abs, z_enumerate := PySem.W.mg_none_of X G z_enumerate, z_int := PySem.W.mg_none_of X G z_int, z_isinstance := PySem.W.mg_none_of X G z_isinstance, z_len := PySem.W.mg_none_of X G z_len, z_max := PySem.W.mg_none_of X G z_max, z_min := PySem.W.mg_none_of X G z_min, z_range := PySem.W.mg_none_of X G z_range, z_repr := PySem.W.mg_none_of X G z_repr, z_tuple := PySem.W.mg_none_of X G z_tuple }
  exact ⟨PySem.W.fnOf "law" "law" (defArgs s_law) (defBody s_law) (defScope s_law) .none kV16 dc16 pm16 an16 cd16 ct16, fun s v => .of_eq rfl, fun base _ _ => ok_law T⟩
end K01
open PySem PySem.W PyProof.Rows
set_option maxHeartbeats 0 in
theorem PySem.Challenge.cw_ringsums_k01_errors_and_what_they_keep_holds : PySem.Challenge.rw_ringsums_k01_errors_and_what_they_keep.Holds := by
  w_on; o_law; k_head; (case hw => w_witness2)
  k_fill
  refine Rs.walk_at_of (l := PySem.Challenge.rw_ringsums_k01_errors_and_what_they_keep) (n := 63) (k := 8) (x := "_law_script") (sp := fun w => K01.spLaw _) rfl (by decide) rfl ⟨rfl, by decide, by decide⟩ (fun w h Y => PySem.W.kIn_of Y) ?F (fun _ _ a ns hl hS => ⟨a, ns, rfl, hS, hl, fun _ => rfl⟩)
  case F =>
    intro w mg fa h KX G hmg
    refine' K01.all_mk KX G hmg ?aC_RingError ?aC_InvalidForm ?xL_InvalidForm ?sa_InvalidForm ?ga_InvalidForm ?gg_InvalidForm ?nw_InvalidForm ?ca_InvalidForm ?kC_InvalidForm ?eC_InvalidForm ?tC_InvalidForm ?hC_InvalidForm ?sC_InvalidForm ?mo_InvalidForm ?cl_InvalidForm ?l0 ?c0 ?k0 ?iC_InvalidForm ?iT_InvalidForm ?aC_InvalidLane ?xL_InvalidLane ?sa_InvalidLane ?ga_InvalidLane ?gg_InvalidLane ?nw_InvalidLane ?ca_InvalidLane ?kC_InvalidLane ?eC_InvalidLane ?tC_InvalidLane ?hC_InvalidLane ?sC_InvalidLane ?mo_InvalidLane ?cl_InvalidLane ?l1 ?c1 ?k1 ?iC_InvalidLane ?iT_InvalidLane ?aC_InvalidBlock ?xL_InvalidBlock ?sa_InvalidBlock ?ga_InvalidBlock ?gg_InvalidBlock ?nw_InvalidBlock ?ca_InvalidBlock ?kC_InvalidBlock ?eC_InvalidBlock ?tC_InvalidBlock ?hC_InvalidBlock ?sC_InvalidBlock ?mo_InvalidBlock ?cl_InvalidBlock ?l2 ?c2 ?k2 ?iC_InvalidBlock ?iT_InvalidBlock ?aC_InvalidPlan ?xq_InvalidPlan ?ga_InvalidPlan ?gg_InvalidPlan ?ca_InvalidPlan ?kC_InvalidPlan ?eC_InvalidPlan ?tC_InvalidPlan ?hC_InvalidPlan ?sC_InvalidPlan ?mo_InvalidPlan ?cl_InvalidPlan ?aC_InvalidText ?xL_InvalidText ?sa_InvalidText ?ga_InvalidText ?gg_InvalidText ?nw_InvalidText ?ca_InvalidText ?kC_InvalidText ?eC_InvalidText ?tC_InvalidText ?hC_InvalidText ?sC_InvalidText ?mo_InvalidText ?cl_InvalidText ?l3 ?c3 ?k3 ?iC_InvalidText ?iT_InvalidText ?aC_InvalidRows ?xL_InvalidRows ?sa_InvalidRows ?ga_InvalidRows ?gg_InvalidRows ?nw_InvalidRows ?ca_InvalidRows ?kC_InvalidRows ?eC_InvalidRows ?tC_InvalidRows ?hC_InvalidRows ?sC_InvalidRows ?mo_InvalidRows ?cl_InvalidRows ?l4 ?c4 ?k4 ?iC_InvalidRows ?iT_InvalidRows ?aC_InvalidSlip ?xL_InvalidSlip ?sa_InvalidSlip ?ga_InvalidSlip ?gg_InvalidSlip ?nw_InvalidSlip ?ca_InvalidSlip ?kC_InvalidSlip ?eC_InvalidSlip ?tC_InvalidSlip ?hC_InvalidSlip ?sC_InvalidSlip ?mo_InvalidSlip ?cl_InvalidSlip ?l5 ?c5 ?k5 ?iC_InvalidSlip ?iT_InvalidSlip ?aC_InvalidCalendar ?xL_InvalidCalendar ?sa_InvalidCalendar ?ga_InvalidCalendar ?gg_InvalidCalendar ?nw_InvalidCalendar ?ca_InvalidCalendar ?kC_InvalidCalendar ?eC_InvalidCalendar ?tC_InvalidCalendar ?hC_InvalidCalendar ?sC_InvalidCalendar ?mo_InvalidCalendar ?cl_InvalidCalendar ?l6 ?c6 ?k6 ?iC_InvalidCalendar ?iT_InvalidCalendar ?aC_InvalidFault ?xq_InvalidFault ?ga_InvalidFault ?gg_InvalidFault ?ca_InvalidFault ?kC_InvalidFault ?eC_InvalidFault ?tC_InvalidFault ?hC_InvalidFault ?sC_InvalidFault ?mo_InvalidFault ?cl_InvalidFault ?aC_InvalidCommand ?xq_InvalidCommand ?ga_InvalidCommand ?gg_InvalidCommand ?ca_InvalidCommand ?kC_InvalidCommand ?eC_InvalidCommand ?tC_InvalidCommand ?hC_InvalidCommand ?sC_InvalidCommand ?mo_InvalidCommand ?cl_InvalidCommand ?aC_Refused ?xL_Refused ?sa_Refused ?ga_Refused ?gg_Refused ?nw_Refused ?ca_Refused ?kC_Refused ?eC_Refused ?tC_Refused ?hC_Refused ?sC_Refused ?mo_Refused ?cl_Refused ?l7 ?c7 ?k7 ?iC_Refused ?iT_Refused ?aC_NoBlock ?xL_NoBlock ?sa_NoBlock ?ga_NoBlock ?gg_NoBlock ?nw_NoBlock ?ca_NoBlock ?kC_NoBlock ?eC_NoBlock ?tC_NoBlock ?hC_NoBlock ?sC_NoBlock ?mo_NoBlock ?cl_NoBlock ?l8 ?c8 ?k8 ?iC_NoBlock ?iT_NoBlock ?spec ?takes ?kit_InvalidText_InvalidText ?kit_InvalidText_InvalidRows ?kit_InvalidText_Refused ?kit_InvalidText_NoBlock ?kit_InvalidText_InvalidForm ?kit_InvalidText_InvalidLane ?kit_InvalidText_InvalidBlock ?kit_InvalidText_InvalidSlip ?kit_InvalidText_InvalidCalendar ?kit_InvalidText_InvalidPlan ?kit_InvalidText_InvalidFault ?kit_InvalidText_InvalidCommand ?kit_InvalidText_RingError ?kit_InvalidText_ValueError ?kit_InvalidRows_InvalidText ?kit_InvalidRows_InvalidRows ?kit_InvalidRows_Refused ?kit_InvalidRows_NoBlock ?kit_InvalidRows_InvalidForm ?kit_InvalidRows_InvalidLane ?kit_InvalidRows_InvalidBlock ?kit_InvalidRows_InvalidSlip ?kit_InvalidRows_InvalidCalendar ?kit_InvalidRows_InvalidPlan ?kit_InvalidRows_InvalidFault ?kit_InvalidRows_InvalidCommand ?kit_InvalidRows_RingError ?kit_InvalidRows_ValueError ?kit_Refused_InvalidText ?kit_Refused_InvalidRows ?kit_Refused_Refused ?kit_Refused_NoBlock ?kit_Refused_InvalidForm ?kit_Refused_InvalidLane ?kit_Refused_InvalidBlock ?kit_Refused_InvalidSlip ?kit_Refused_InvalidCalendar ?kit_Refused_InvalidPlan ?kit_Refused_InvalidFault ?kit_Refused_InvalidCommand ?kit_Refused_RingError ?kit_Refused_ValueError ?kit_NoBlock_InvalidText ?kit_NoBlock_InvalidRows ?kit_NoBlock_Refused ?kit_NoBlock_NoBlock ?kit_NoBlock_InvalidForm ?kit_NoBlock_InvalidLane ?kit_NoBlock_InvalidBlock ?kit_NoBlock_InvalidSlip ?kit_NoBlock_InvalidCalendar ?kit_NoBlock_InvalidPlan ?kit_NoBlock_InvalidFault ?kit_NoBlock_InvalidCommand ?kit_NoBlock_RingError ?kit_NoBlock_IndexError ?kit_InvalidForm_InvalidText ?kit_InvalidForm_InvalidRows ?kit_InvalidForm_Refused ?kit_InvalidForm_NoBlock ?kit_InvalidForm_InvalidForm ?kit_InvalidForm_InvalidLane ?kit_InvalidForm_InvalidBlock ?kit_InvalidForm_InvalidSlip ?kit_InvalidForm_InvalidCalendar ?kit_InvalidForm_InvalidPlan ?kit_InvalidForm_InvalidFault ?kit_InvalidForm_InvalidCommand ?kit_InvalidForm_RingError ?kit_InvalidForm_ValueError ?kit_InvalidLane_InvalidText ?kit_InvalidLane_InvalidRows ?kit_InvalidLane_Refused ?kit_InvalidLane_NoBlock ?kit_InvalidLane_InvalidForm ?kit_InvalidLane_InvalidLane ?kit_InvalidLane_InvalidBlock ?kit_InvalidLane_InvalidSlip ?kit_InvalidLane_InvalidCalendar ?kit_InvalidLane_InvalidPlan ?kit_InvalidLane_InvalidFault ?kit_InvalidLane_InvalidCommand ?kit_InvalidLane_RingError ?kit_InvalidLane_ValueError ?kit_InvalidBlock_InvalidText ?kit_InvalidBlock_InvalidRows ?kit_InvalidBlock_Refused ?kit_InvalidBlock_NoBlock ?kit_InvalidBlock_InvalidForm ?kit_InvalidBlock_InvalidLane ?kit_InvalidBlock_InvalidBlock ?kit_InvalidBlock_InvalidSlip ?kit_InvalidBlock_InvalidCalendar ?kit_InvalidBlock_InvalidPlan ?kit_InvalidBlock_InvalidFault ?kit_InvalidBlock_InvalidCommand ?kit_InvalidBlock_RingError ?kit_InvalidBlock_ValueError ?kit_InvalidSlip_InvalidText ?kit_InvalidSlip_InvalidRows ?kit_InvalidSlip_Refused ?kit_InvalidSlip_NoBlock ?kit_InvalidSlip_InvalidForm ?kit_InvalidSlip_InvalidLane ?kit_InvalidSlip_InvalidBlock ?kit_InvalidSlip_InvalidSlip ?kit_InvalidSlip_InvalidCalendar ?kit_InvalidSlip_InvalidPlan ?kit_InvalidSlip_InvalidFault ?kit_InvalidSlip_InvalidCommand ?kit_InvalidSlip_RingError ?kit_InvalidSlip_ValueError ?kit_InvalidCalendar_InvalidText ?kit_InvalidCalendar_InvalidRows ?kit_InvalidCalendar_Refused ?kit_InvalidCalendar_NoBlock ?kit_InvalidCalendar_InvalidForm ?kit_InvalidCalendar_InvalidLane ?kit_InvalidCalendar_InvalidBlock ?kit_InvalidCalendar_InvalidSlip ?kit_InvalidCalendar_InvalidCalendar ?kit_InvalidCalendar_InvalidPlan ?kit_InvalidCalendar_InvalidFault ?kit_InvalidCalendar_InvalidCommand ?kit_InvalidCalendar_RingError ?kit_InvalidCalendar_ValueError ?kit_InvalidPlan_InvalidText ?kit_InvalidPlan_InvalidRows ?kit_InvalidPlan_Refused ?kit_InvalidPlan_NoBlock ?kit_InvalidPlan_InvalidForm ?kit_InvalidPlan_InvalidLane ?kit_InvalidPlan_InvalidBlock ?kit_InvalidPlan_InvalidSlip ?kit_InvalidPlan_InvalidCalendar ?kit_InvalidPlan_InvalidPlan ?kit_InvalidPlan_InvalidFault ?kit_InvalidPlan_InvalidCommand ?kit_InvalidPlan_RingError ?kit_InvalidPlan_ValueError ?kit_InvalidFault_InvalidText ?kit_InvalidFault_InvalidRows ?kit_InvalidFault_Refused ?kit_InvalidFault_NoBlock ?kit_InvalidFault_InvalidForm ?kit_InvalidFault_InvalidLane ?kit_InvalidFault_InvalidBlock ?kit_InvalidFault_InvalidSlip ?kit_InvalidFault_InvalidCalendar ?kit_InvalidFault_InvalidPlan ?kit_InvalidFault_InvalidFault ?kit_InvalidFault_InvalidCommand ?kit_InvalidFault_RingError ?kit_InvalidFault_ValueError ?kit_InvalidCommand_InvalidText ?kit_InvalidCommand_InvalidRows ?kit_InvalidCommand_Refused ?kit_InvalidCommand_NoBlock ?kit_InvalidCommand_InvalidForm ?kit_InvalidCommand_InvalidLane ?kit_InvalidCommand_InvalidBlock ?kit_InvalidCommand_InvalidSlip ?kit_InvalidCommand_InvalidCalendar ?kit_InvalidCommand_InvalidPlan ?kit_InvalidCommand_InvalidFault ?kit_InvalidCommand_InvalidCommand ?kit_InvalidCommand_RingError ?kit_InvalidCommand_ValueError ?l9 ?c9 ?k9 ?a9 ?l10 ?c10 ?k10 ?a10 ?l11 ?c11 ?k11 ?a11 ?l12 ?c12 ?k12 ?a12 ?l13 ?c13 ?k13 ?a13 ?l14 ?c14 ?k14 ?a14 ?l15 ?c15 ?k15 ?a15 ?l16 ?c16 ?k16 ?a16 ?z_IndexError ?z_ValueError ?z_abs ?z_enumerate ?z_int ?z_isinstance ?z_len ?z_max ?z_min ?z_range ?z_repr ?z_tuple
    (case aC_RingError => k_is)
    (case aC_InvalidForm => k_is)
    (case aC_InvalidLane => k_is)
    (case aC_InvalidBlock => k_is)
    (case aC_InvalidPlan => k_is)
    (case aC_InvalidText => k_is)
    (case aC_InvalidRows => k_is)
    (case aC_InvalidSlip => k_is)
    (case aC_InvalidCalendar => k_is)
    (case aC_InvalidFault => k_is)
    (case aC_InvalidCommand => k_is)
    (case aC_Refused => k_is)
    (case aC_NoBlock => k_is)
    (case iC_InvalidForm => k_is)
    (case iC_InvalidLane => k_is)
    (case iC_InvalidBlock => k_is)
    (case iC_InvalidText => k_is)
    (case iC_InvalidRows => k_is)
    (case iC_InvalidSlip => k_is)
    (case iC_InvalidCalendar => k_is)
    (case iC_Refused => k_is)
    (case iC_NoBlock => k_is)
    (case a9 => k_is)
    (case a10 => k_is)
    (case a11 => k_is)
    (case a12 => k_is)
    (case a13 => k_is)
    (case a14 => k_is)
    (case a15 => k_is)
    (case a16 => k_is)
    (case xL_InvalidForm => k_is)
    (case l0 => k_is)
    (case xL_InvalidLane => k_is)
    (case l1 => k_is)
    (case xL_InvalidBlock => k_is)
    (case l2 => k_is)
    (case xL_InvalidText => k_is)
    (case l3 => k_is)
    (case xL_InvalidRows => k_is)
    (case l4 => k_is)
    (case xL_InvalidSlip => k_is)
    (case l5 => k_is)
    (case xL_InvalidCalendar => k_is)
    (case l6 => k_is)
    (case xL_Refused => k_is)
    (case l7 => k_is)
    (case xL_NoBlock => k_is)
    (case l8 => k_is)
    (case l9 => k_is)
    (case l10 => k_is)
    (case l11 => k_is)
    (case l12 => k_is)
    (case l13 => k_is)
    (case l14 => k_is)
    (case l15 => k_is)
    (case l16 => k_is)
    (case sa_InvalidForm => k_is)
    (case ga_InvalidForm => k_is)
    (case gg_InvalidForm => k_is)
    (case nw_InvalidForm => k_is)
    (case ca_InvalidForm => k_is)
    (case kC_InvalidForm => k_is)
    (case eC_InvalidForm => k_is)
    (case tC_InvalidForm => first | rfl | k_is)
    (case hC_InvalidForm => k_is)
    (case sC_InvalidForm => first | rfl | k_is)
    (case mo_InvalidForm => first | rfl | k_is)
    (case cl_InvalidForm => first | rfl | k_is)
    (case c0 => k_is)
    (case k0 => k_is)
    (case iT_InvalidForm => k_is)
    (case sa_InvalidLane => k_is)
    (case ga_InvalidLane => k_is)
    (case gg_InvalidLane => k_is)
    (case nw_InvalidLane => k_is)
    (case ca_InvalidLane => k_is)
    (case kC_InvalidLane => k_is)
    (case eC_InvalidLane => k_is)
    (case tC_InvalidLane => first | rfl | k_is)
    (case hC_InvalidLane => k_is)
    (case sC_InvalidLane => first | rfl | k_is)
    (case mo_InvalidLane => first | rfl | k_is)
    (case cl_InvalidLane => first | rfl | k_is)
    (case c1 => k_is)
    (case k1 => k_is)
    (case iT_InvalidLane => k_is)
    (case sa_InvalidBlock => k_is)
    (case ga_InvalidBlock => k_is)
    (case gg_InvalidBlock => k_is)
    (case nw_InvalidBlock => k_is)
    (case ca_InvalidBlock => k_is)
    (case kC_InvalidBlock => k_is)
    (case eC_InvalidBlock => k_is)
    (case tC_InvalidBlock => first | rfl | k_is)
    (case hC_InvalidBlock => k_is)
    (case sC_InvalidBlock => first | rfl | k_is)
    (case mo_InvalidBlock => first | rfl | k_is)
    (case cl_InvalidBlock => first | rfl | k_is)
    (case c2 => k_is)
    (case k2 => k_is)
    (case iT_InvalidBlock => k_is)
    (case xq_InvalidPlan => k_exc)
    (case ga_InvalidPlan => k_is)
    (case gg_InvalidPlan => k_is)
    (case ca_InvalidPlan => k_is)
    (case kC_InvalidPlan => k_is)
    (case eC_InvalidPlan => k_is)
    (case tC_InvalidPlan => first | rfl | k_is)
    (case hC_InvalidPlan => k_is)
    (case sC_InvalidPlan => first | rfl | k_is)
    (case mo_InvalidPlan => first | rfl | k_is)
    (case cl_InvalidPlan => first | rfl | k_is)
    (case sa_InvalidText => k_is)
    (case ga_InvalidText => k_is)
    (case gg_InvalidText => k_is)
    (case nw_InvalidText => k_is)
    (case ca_InvalidText => k_is)
    (case kC_InvalidText => k_is)
    (case eC_InvalidText => k_is)
    (case tC_InvalidText => first | rfl | k_is)
    (case hC_InvalidText => k_is)
    (case sC_InvalidText => first | rfl | k_is)
    (case mo_InvalidText => first | rfl | k_is)
    (case cl_InvalidText => first | rfl | k_is)
    (case c3 => k_is)
    (case k3 => k_is)
    (case iT_InvalidText => k_is)
    (case sa_InvalidRows => k_is)
    (case ga_InvalidRows => k_is)
    (case gg_InvalidRows => k_is)
    (case nw_InvalidRows => k_is)
    (case ca_InvalidRows => k_is)
    (case kC_InvalidRows => k_is)
    (case eC_InvalidRows => k_is)
    (case tC_InvalidRows => first | rfl | k_is)
    (case hC_InvalidRows => k_is)
    (case sC_InvalidRows => first | rfl | k_is)
    (case mo_InvalidRows => first | rfl | k_is)
    (case cl_InvalidRows => first | rfl | k_is)
    (case c4 => k_is)
    (case k4 => k_is)
    (case iT_InvalidRows => k_is)
    (case sa_InvalidSlip => k_is)
    (case ga_InvalidSlip => k_is)
    (case gg_InvalidSlip => k_is)
    (case nw_InvalidSlip => k_is)
    (case ca_InvalidSlip => k_is)
    (case kC_InvalidSlip => k_is)
    (case eC_InvalidSlip => k_is)
    (case tC_InvalidSlip => first | rfl | k_is)
    (case hC_InvalidSlip => k_is)
    (case sC_InvalidSlip => first | rfl | k_is)
    (case mo_InvalidSlip => first | rfl | k_is)
    (case cl_InvalidSlip => first | rfl | k_is)
    (case c5 => k_is)
    (case k5 => k_is)
    (case iT_InvalidSlip => k_is)
    (case sa_InvalidCalendar => k_is)
    (case ga_InvalidCalendar => k_is)
    (case gg_InvalidCalendar => k_is)
    (case nw_InvalidCalendar => k_is)
    (case ca_InvalidCalendar => k_is)
    (case kC_InvalidCalendar => k_is)
    (case eC_InvalidCalendar => k_is)
    (case tC_InvalidCalendar => first | rfl | k_is)
    (case hC_InvalidCalendar => k_is)
    (case sC_InvalidCalendar => first | rfl | k_is)
    (case mo_InvalidCalendar => first | rfl | k_is)
    (case cl_InvalidCalendar => first | rfl | k_is)
    (case c6 => k_is)
    (case k6 => k_is)
    (case iT_InvalidCalendar => k_is)
    (case xq_InvalidFault => k_exc)
    (case ga_InvalidFault => k_is)
    (case gg_InvalidFault => k_is)
    (case ca_InvalidFault => k_is)
    (case kC_InvalidFault => k_is)
    (case eC_InvalidFault => k_is)
    (case tC_InvalidFault => first | rfl | k_is)
    (case hC_InvalidFault => k_is)
    (case sC_InvalidFault => first | rfl | k_is)
    (case mo_InvalidFault => first | rfl | k_is)
    (case cl_InvalidFault => first | rfl | k_is)
    (case xq_InvalidCommand => k_exc)
    (case ga_InvalidCommand => k_is)
    (case gg_InvalidCommand => k_is)
    (case ca_InvalidCommand => k_is)
    (case kC_InvalidCommand => k_is)
    (case eC_InvalidCommand => k_is)
    (case tC_InvalidCommand => first | rfl | k_is)
    (case hC_InvalidCommand => k_is)
    (case sC_InvalidCommand => first | rfl | k_is)
    (case mo_InvalidCommand => first | rfl | k_is)
    (case cl_InvalidCommand => first | rfl | k_is)
    (case sa_Refused => k_is)
    (case ga_Refused => k_is)
    (case gg_Refused => k_is)
    (case nw_Refused => k_is)
    (case ca_Refused => k_is)
    (case kC_Refused => k_is)
    (case eC_Refused => k_is)
    (case tC_Refused => first | rfl | k_is)
    (case hC_Refused => k_is)
    (case sC_Refused => first | rfl | k_is)
    (case mo_Refused => first | rfl | k_is)
    (case cl_Refused => first | rfl | k_is)
    (case c7 => k_is)
    (case k7 => k_is)
    (case iT_Refused => k_is)
    (case sa_NoBlock => k_is)
    (case ga_NoBlock => k_is)
    (case gg_NoBlock => k_is)
    (case nw_NoBlock => k_is)
    (case ca_NoBlock => k_is)
    (case kC_NoBlock => k_is)
    (case eC_NoBlock => k_is)
    (case tC_NoBlock => first | rfl | k_is)
    (case hC_NoBlock => k_is)
    (case sC_NoBlock => first | rfl | k_is)
    (case mo_NoBlock => first | rfl | k_is)
    (case cl_NoBlock => first | rfl | k_is)
    (case c8 => k_is)
    (case k8 => k_is)
    (case iT_NoBlock => k_is)
    (case spec => first | rfl | k_is)
    (case takes => first | rfl | k_is)
    (case kit_InvalidText_InvalidText => first | rfl | k_is)
    (case kit_InvalidText_InvalidRows => first | rfl | k_is)
    (case kit_InvalidText_Refused => first | rfl | k_is)
    (case kit_InvalidText_NoBlock => first | rfl | k_is)
    (case kit_InvalidText_InvalidForm => first | rfl | k_is)
    (case kit_InvalidText_InvalidLane => first | rfl | k_is)
    (case kit_InvalidText_InvalidBlock => first | rfl | k_is)
    (case kit_InvalidText_InvalidSlip => first | rfl | k_is)
    (case kit_InvalidText_InvalidCalendar => first | rfl | k_is)
    (case kit_InvalidText_InvalidPlan => first | rfl | k_is)
    (case kit_InvalidText_InvalidFault => first | rfl | k_is)
    (case kit_InvalidText_InvalidCommand => first | rfl | k_is)
    (case kit_InvalidText_RingError => first | rfl | k_is)
    (case kit_InvalidText_ValueError => first | rfl | k_is)
    (case kit_InvalidRows_InvalidText => first | rfl | k_is)
    (case kit_InvalidRows_InvalidRows => first | rfl | k_is)
    (case kit_InvalidRows_Refused => first | rfl | k_is)
    (case kit_InvalidRows_NoBlock => first | rfl | k_is)
    (case kit_InvalidRows_InvalidForm => first | rfl | k_is)
    (case kit_InvalidRows_InvalidLane => first | rfl | k_is)
    (case kit_InvalidRows_InvalidBlock => first | rfl | k_is)
    (case kit_InvalidRows_InvalidSlip => first | rfl | k_is)
    (case kit_InvalidRows_InvalidCalendar => first | rfl | k_is)
    (case kit_InvalidRows_InvalidPlan => first | rfl | k_is)
    (case kit_InvalidRows_InvalidFault => first | rfl | k_is)
    (case kit_InvalidRows_InvalidCommand => first | rfl | k_is)
    (case kit_InvalidRows_RingError => first | rfl | k_is)
    (case kit_InvalidRows_ValueError => first | rfl | k_is)
    (case kit_Refused_InvalidText => first | rfl | k_is)
    (case kit_Refused_InvalidRows => first | rfl | k_is)
    (case kit_Refused_Refused => first | rfl | k_is)
    (case kit_Refused_NoBlock => first | rfl | k_is)
    (case kit_Refused_InvalidForm => first | rfl | k_is)
    (case kit_Refused_InvalidLane => first | rfl | k_is)
    (case kit_Refused_InvalidBlock => first | rfl | k_is)
    (case kit_Refused_InvalidSlip => first | rfl | k_is)
    (case kit_Refused_InvalidCalendar => first | rfl | k_is)
    (case kit_Refused_InvalidPlan => first | rfl | k_is)
    (case kit_Refused_InvalidFault => first | rfl | k_is)
    (case kit_Refused_InvalidCommand => first | rfl | k_is)
    (case kit_Refused_RingError => first | rfl | k_is)
    (case kit_Refused_ValueError => first | rfl | k_is)
    (case kit_NoBlock_InvalidText => first | rfl | k_is)
    (case kit_NoBlock_InvalidRows => first | rfl | k_is)
    (case kit_NoBlock_Refused => first | rfl | k_is)
    (case kit_NoBlock_NoBlock => first | rfl | k_is)
    (case kit_NoBlock_InvalidForm => first | rfl | k_is)
    (case kit_NoBlock_InvalidLane => first | rfl | k_is)
    (case kit_NoBlock_InvalidBlock => first | rfl | k_is)
    (case kit_NoBlock_InvalidSlip => first | rfl | k_is)
    (case kit_NoBlock_InvalidCalendar => first | rfl | k_is)
    (case kit_NoBlock_InvalidPlan => first | rfl | k_is)
    (case kit_NoBlock_InvalidFault => first | rfl | k_is)
    (case kit_NoBlock_InvalidCommand => first | rfl | k_is)
    (case kit_NoBlock_RingError => first | rfl | k_is)
    (case kit_NoBlock_IndexError => first | rfl | k_is)
    (case kit_InvalidForm_InvalidText => first | rfl | k_is)
    (case kit_InvalidForm_InvalidRows => first | rfl | k_is)
    (case kit_InvalidForm_Refused => first | rfl | k_is)
    (case kit_InvalidForm_NoBlock => first | rfl | k_is)
    (case kit_InvalidForm_InvalidForm => first | rfl | k_is)
    (case kit_InvalidForm_InvalidLane => first | rfl | k_is)
    (case kit_InvalidForm_InvalidBlock => first | rfl | k_is)
    (case kit_InvalidForm_InvalidSlip => first | rfl | k_is)
    (case kit_InvalidForm_InvalidCalendar => first | rfl | k_is)
    (case kit_InvalidForm_InvalidPlan => first | rfl | k_is)
    (case kit_InvalidForm_InvalidFault => first | rfl | k_is)
    (case kit_InvalidForm_InvalidCommand => first | rfl | k_is)
    (case kit_InvalidForm_RingError => first | rfl | k_is)
    (case kit_InvalidForm_ValueError => first | rfl | k_is)
    (case kit_InvalidLane_InvalidText => first | rfl | k_is)
    (case kit_InvalidLane_InvalidRows => first | rfl | k_is)
    (case kit_InvalidLane_Refused => first | rfl | k_is)
    (case kit_InvalidLane_NoBlock => first | rfl | k_is)
    (case kit_InvalidLane_InvalidForm => first | rfl | k_is)
    (case kit_InvalidLane_InvalidLane => first | rfl | k_is)
    (case kit_InvalidLane_InvalidBlock => first | rfl | k_is)
    (case kit_InvalidLane_InvalidSlip => first | rfl | k_is)
    (case kit_InvalidLane_InvalidCalendar => first | rfl | k_is)
    (case kit_InvalidLane_InvalidPlan => first | rfl | k_is)
    (case kit_InvalidLane_InvalidFault => first | rfl | k_is)
    (case kit_InvalidLane_InvalidCommand => first | rfl | k_is)
    (case kit_InvalidLane_RingError => first | rfl | k_is)
    (case kit_InvalidLane_ValueError => first | rfl | k_is)
    (case kit_InvalidBlock_InvalidText => first | rfl | k_is)
    (case kit_InvalidBlock_InvalidRows => first | rfl | k_is)
    (case kit_InvalidBlock_Refused => first | rfl | k_is)
    (case kit_InvalidBlock_NoBlock => first | rfl | k_is)
    (case kit_InvalidBlock_InvalidForm => first | rfl | k_is)
    (case kit_InvalidBlock_InvalidLane => first | rfl | k_is)
    (case kit_InvalidBlock_InvalidBlock => first | rfl | k_is)
    (case kit_InvalidBlock_InvalidSlip => first | rfl | k_is)
    (case kit_InvalidBlock_InvalidCalendar => first | rfl | k_is)
    (case kit_InvalidBlock_InvalidPlan => first | rfl | k_is)
    (case kit_InvalidBlock_InvalidFault => first | rfl | k_is)
    (case kit_InvalidBlock_InvalidCommand => first | rfl | k_is)
    (case kit_InvalidBlock_RingError => first | rfl | k_is)
    (case kit_InvalidBlock_ValueError => first | rfl | k_is)
    (case kit_InvalidSlip_InvalidText => first | rfl | k_is)
    (case kit_InvalidSlip_InvalidRows => first | rfl | k_is)
    (case kit_InvalidSlip_Refused => first | rfl | k_is)
    (case kit_InvalidSlip_NoBlock => first | rfl | k_is)
    (case kit_InvalidSlip_InvalidForm => first | rfl | k_is)
    (case kit_InvalidSlip_InvalidLane => first | rfl | k_is)
    (case kit_InvalidSlip_InvalidBlock => first | rfl | k_is)
    (case kit_InvalidSlip_InvalidSlip => first | rfl | k_is)
    (case kit_InvalidSlip_InvalidCalendar => first | rfl | k_is)
    (case kit_InvalidSlip_InvalidPlan => first | rfl | k_is)
    (case kit_InvalidSlip_InvalidFault => first | rfl | k_is)
    (case kit_InvalidSlip_InvalidCommand => first | rfl | k_is)
    (case kit_InvalidSlip_RingError => first | rfl | k_is)
    (case kit_InvalidSlip_ValueError => first | rfl | k_is)
    (case kit_InvalidCalendar_InvalidText => first | rfl | k_is)
    (case kit_InvalidCalendar_InvalidRows => first | rfl | k_is)
    (case kit_InvalidCalendar_Refused => first | rfl | k_is)
    (case kit_InvalidCalendar_NoBlock => first | rfl | k_is)
    (case kit_InvalidCalendar_InvalidForm => first | rfl | k_is)
    (case kit_InvalidCalendar_InvalidLane => first | rfl | k_is)
    (case kit_InvalidCalendar_InvalidBlock => first | rfl | k_is)
    (case kit_InvalidCalendar_InvalidSlip => first | rfl | k_is)
    (case kit_InvalidCalendar_InvalidCalendar => first | rfl | k_is)
    (case kit_InvalidCalendar_InvalidPlan => first | rfl | k_is)
    (case kit_InvalidCalendar_InvalidFault => first | rfl | k_is)
    (case kit_InvalidCalendar_InvalidCommand => first | rfl | k_is)
    (case kit_InvalidCalendar_RingError => first | rfl | k_is)
    (case kit_InvalidCalendar_ValueError => first | rfl | k_is)
    (case kit_InvalidPlan_InvalidText => first | rfl | k_is)
    (case kit_InvalidPlan_InvalidRows => first | rfl | k_is)
    (case kit_InvalidPlan_Refused => first | rfl | k_is)
    (case kit_InvalidPlan_NoBlock => first | rfl | k_is)
    (case kit_InvalidPlan_InvalidForm => first | rfl | k_is)
    (case kit_InvalidPlan_InvalidLane => first | rfl | k_is)
    (case kit_InvalidPlan_InvalidBlock => first | rfl | k_is)
    (case kit_InvalidPlan_InvalidSlip => first | rfl | k_is)
    (case kit_InvalidPlan_InvalidCalendar => first | rfl | k_is)
    (case kit_InvalidPlan_InvalidPlan => first | rfl | k_is)
    (case kit_InvalidPlan_InvalidFault => first | rfl | k_is)
    (case kit_InvalidPlan_InvalidCommand => first | rfl | k_is)
    (case kit_InvalidPlan_RingError => first | rfl | k_is)
    (case kit_InvalidPlan_ValueError => first | rfl | k_is)
    (case kit_InvalidFault_InvalidText => first | rfl | k_is)
    (case kit_InvalidFault_InvalidRows => first | rfl | k_is)
    (case kit_InvalidFault_Refused => first | rfl | k_is)
    (case kit_InvalidFault_NoBlock => first | rfl | k_is)
    (case kit_InvalidFault_InvalidForm => first | rfl | k_is)
    (case kit_InvalidFault_InvalidLane => first | rfl | k_is)
    (case kit_InvalidFault_InvalidBlock => first | rfl | k_is)
    (case kit_InvalidFault_InvalidSlip => first | rfl | k_is)
    (case kit_InvalidFault_InvalidCalendar => first | rfl | k_is)
    (case kit_InvalidFault_InvalidPlan => first | rfl | k_is)
    (case kit_InvalidFault_InvalidFault => first | rfl | k_is)
    (case kit_InvalidFault_InvalidCommand => first | rfl | k_is)
    (case kit_InvalidFault_RingError => first | rfl | k_is)
    (case kit_InvalidFault_ValueError => first | rfl | k_is)
    (case kit_InvalidCommand_InvalidText => first | rfl | k_is)
    (case kit_InvalidCommand_InvalidRows => first | rfl | k_is)
    (case kit_InvalidCommand_Refused => first | rfl | k_is)
    (case kit_InvalidCommand_NoBlock => first | rfl | k_is)
    (case kit_InvalidCommand_InvalidForm => first | rfl | k_is)
    (case kit_InvalidCommand_InvalidLane => first | rfl | k_is)
    (case kit_InvalidCommand_InvalidBlock => first | rfl | k_is)
    (case kit_InvalidCommand_InvalidSlip => first | rfl | k_is)
    (case kit_InvalidCommand_InvalidCalendar => first | rfl | k_is)
    (case kit_InvalidCommand_InvalidPlan => first | rfl | k_is)
    (case kit_InvalidCommand_InvalidFault => first | rfl | k_is)
    (case kit_InvalidCommand_InvalidCommand => first | rfl | k_is)
    (case kit_InvalidCommand_RingError => first | rfl | k_is)
    (case kit_InvalidCommand_ValueError => first | rfl | k_is)
    (case c9 => k_is)
    (case k9 => k_is)
    (case c10 => k_is)
    (case k10 => k_is)
    (case c11 => k_is)
    (case k11 => k_is)
    (case c12 => k_is)
    (case k12 => k_is)
    (case c13 => k_is)
    (case k13 => k_is)
    (case c14 => k_is)
    (case k14 => k_is)
    (case c15 => k_is)
    (case k15 => k_is)
    (case c16 => k_is)
    (case k16 => k_is)
    (case z_IndexError => k_is)
    (case z_ValueError => k_is)
    (case z_abs => k_is)
    (case z_enumerate => k_is)
    (case z_int => k_is)
    (case z_isinstance => k_is)
    (case z_len => k_is)
    (case z_max => k_is)
    (case z_min => k_is)
    (case z_range => k_is)
    (case z_repr => k_is)
    (case z_tuple => k_is)
