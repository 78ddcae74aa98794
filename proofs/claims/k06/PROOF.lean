import PyProof.Rows.All
import Wide.All
import OpenK.AllK
import Wide.FinOn
import HandS.ForMost
import HandS.Wide
import HandS.Conv
import HandS.IsInst
import HandS.Walk
import HandS.TupAny
import HandS.TupMul
import HandS.TryOnly
import HandS.Style
import HandS.Flow
import HandS.Deep
import HandS.ForExc
import HandS.ExcInit
import HandS.ExcIs
import HandS.ExcField
import HandS.Defaults
import HandS.RaiseMore
import KE.KExcIs
import HandS.OwnEq
import HandS.SlotsOwn
import PyProof.InstNe
import HandS.DictComp
import PyProof.Rows.FloatCmp
import KE.KOpsOwn
import OpenK.KMeth
import HandS.Property
import HandS.Gcd
import HandS.ListItems
import HandS.Zip
import HandS.GenList
import KE.GoesZip
import KE.KItemsList
import PyProof.ZipIter
import HandS.FStr
import HandS.Text
import KE.KCallOwn
import KE.KIntText
import PyProof.Rows.ReprOcc
import HandS.Nested
import HandS.EndOwn
import HandS.TryMany
import HandS.ExcOwn
import HandS.ExcValue
import PySem.Challenge.RW_ringsums_k06_lanes_and_blocks_refused
set_option Elab.async false
set_option linter.all false
set_option maxRecDepth 100000
set_option maxHeartbeats 4000000
namespace Rs
open PySem PySem.Spec PyProof.Rows L2

/-! ### what never changes: tuples, instances, their dicts -/
def frozen : HO → Prop
  | .tup _ => True
  | .ins _ _ _ => True
  | .own _ => True
  | .frz _ _ => True
  | _ => False
def Fz (H H' : Hp) : Prop := ∀ a o, frozen o → H a = some o → H' a = some o
theorem Fz.refl (H : Hp) : Fz H H := fun _ _ _ h => h
theorem Fz.trans {H H1 H2 : Hp} (a : Fz H H1) (b : Fz H1 H2) : Fz H H2 := fun x o f h => b x o f (a x o f h)
theorem Fz.of_same {H H' : Hp} (s : Same H H') : Fz H H' := fun a o _ h => s a o h
theorem same_new {H : Hp} {p : Addr} {o : HO} (h : H p = none) : Same H (upd H p o) := fun b x e => by
  rw [upd_ne (ne_of_none e h)]
  exact e
theorem Fz.new {H : Hp} {p : Addr} {o : HO} (h : H p = none) : Fz H (upd H p o) := Fz.of_same (same_new h)
theorem Fz.lst {H : Hp} {p : Addr} {xs : List V} {o : HO} (h : H p = some (.lst xs)) : Fz H (upd H p o) := fun a u f e => by
  have : a ≠ p := by
    rintro rfl
    rw [h] at e
    cases e
    exact f
  rw [upd_ne this]
  exact e

/-! ### data of tuples -/
mutual
inductive Dt (K : PySem.W.Frag) (H : Hp) : V → PyData → Prop
  | non : Dt K H .non .none
  | bl (b : Bool) : Dt K H (.bl b) (.bool b)
  | int (i : Int) : Dt K H (.int i) (.int i)
  | str (x : Str) : Dt K H (.str x) (.str x)
  | tup {a : Addr} {xs : List V} {ds : List PyData} : SqT K H a xs → DtAll K H xs ds → Dt K H (.ref a) (.tuple ds)
inductive DtAll (K : PySem.W.Frag) (H : Hp) : List V → List PyData → Prop
  | nil : DtAll K H [] []
  | cons {v : V} {vs : List V} {d : PyData} {ds : List PyData} : Dt K H v d → DtAll K H vs ds → DtAll K H (v :: vs) (d :: ds)
end
theorem Fz.sqT {K : PySem.W.Frag} {H H' : Hp} {a : Addr} {xs : List V} (e : Fz H H') (h : SqT K H a xs) : SqT K H' a xs := by
  rcases h with (h | ⟨o, h⟩) | h
  · exact .inl (.inl (e _ _ trivial h))
  · exact .inl (.inr ⟨o, e _ _ trivial h⟩)
  · exact .inr h
mutual
theorem Dt.mono {K : PySem.W.Frag} {H H' : Hp} (e : Fz H H') : ∀ {v : V} {d : PyData}, Dt K H v d → Dt K H' v d
  | _, _, .non => .non
  | _, _, .bl b => .bl b
  | _, _, .int i => .int i
  | _, _, .str x => .str x
  | _, _, .tup h hs => .tup (e.sqT h) (DtAll.mono e hs)
theorem DtAll.mono {K : PySem.W.Frag} {H H' : Hp} (e : Fz H H') : ∀ {v : List V} {d : List PyData}, DtAll K H v d → DtAll K H' v d
  | _, _, .nil => .nil
  | _, _, .cons h hs => .cons (h.mono e) (DtAll.mono e hs)
end
mutual
theorem Dt.dp {K : PySem.W.Frag} {H : Hp} : ∀ {v : V} {d : PyData}, Dt K H v d → Dp K H v d
  | _, _, .non => .non
  | _, _, .bl b => .bl b
  | _, _, .int i => .int i
  | _, _, .str x => .str x
  | _, _, .tup h hs => .tup h (DtAll.dp hs)
theorem DtAll.dp {K : PySem.W.Frag} {H : Hp} : ∀ {v : List V} {d : List PyData}, DtAll K H v d → DpAll K H v d
  | _, _, .nil => .nil
  | _, _, .cons h hs => .cons h.dp (DtAll.dp hs)
end
theorem DtAll.length {K : PySem.W.Frag} {H : Hp} : ∀ {v : List V} {d : List PyData}, DtAll K H v d → v.length = d.length
  | _, _, .nil => rfl
  | _, _, .cons _ hs => congrArg (· + 1) hs.length
theorem DtAll.append {K : PySem.W.Frag} {H : Hp} : ∀ {v w : List V} {d e : List PyData}, DtAll K H v d → DtAll K H w e → DtAll K H (v ++ w) (d ++ e)
  | _, _, _, _, .nil, k => k
  | _, _, _, _, .cons h hs, k => .cons h (hs.append k)
theorem DtAll.get {K : PySem.W.Frag} {H : Hp} : ∀ {v : List V} {d : List PyData} {i : Nat} {x : PyData}, DtAll K H v d → d[i]? = some x → ∃ y, v[i]? = some y ∧ Dt K H y x
  | _, _, i, x, .nil, e => by simp at e
  | _, _, 0, x, .cons h _, e => ⟨_, rfl, by
      have : _ = x := Option.some.inj e
      exact this ▸ h⟩
  | _, _, i + 1, x, .cons _ hs, e => by
    have e' := e
    simp only [List.getElem?_cons_succ] at e' ⊢
    exact hs.get e'
theorem DtAll.getV {K : PySem.W.Frag} {H : Hp} : ∀ {v : List V} {d : List PyData} {i : Nat} {y : V}, DtAll K H v d → v[i]? = some y → ∃ x, d[i]? = some x ∧ Dt K H y x
  | _, _, i, x, .nil, e => by simp at e
  | _, _, 0, x, .cons h _, e => ⟨_, rfl, by
      have : _ = x := Option.some.inj e
      exact this ▸ h⟩
  | _, _, i + 1, x, .cons _ hs, e => by
    have e' := e
    simp only [List.getElem?_cons_succ] at e' ⊢
    exact hs.getV e'

/-! ### the box of draws -/
structure BoxI (x y z : Int) : Prop where
  x0 : 0 ≤ x
  y1 : 1 ≤ y
  y2 : y ≤ 2147483629
def boxL (x y z : Int) : List V := [.int x, .int y, .int z]
def Box (H : Hp) (b : Addr) : Prop := ∃ x y z, H b = some (.lst (boxL x y z)) ∧ BoxI x y z
/-- all but the list at b is as it was -/
def But (b : Addr) (H H' : Hp) : Prop := ∀ a o, a ≠ b → H a = some o → H' a = some o
theorem But.refl (b : Addr) (H : Hp) : But b H H := fun _ _ _ h => h
theorem But.trans {b : Addr} {H H1 H2 : Hp} (x : But b H H1) (y : But b H1 H2) : But b H H2 := fun a o n h => y a o n (x a o n h)
theorem But.of_same {b : Addr} {H H' : Hp} (s : Same H H') : But b H H' := fun a o _ h => s a o h
theorem But.upd {b : Addr} {H H' : Hp} {o : HO} (s : But b H H') : But b H (upd H' b o) := fun a u n h => by
  rw [upd_ne n]
  exact s a u n h
theorem Box.same {b : Addr} {H H' : Hp} (x : Box H b) (s : Same H H') : Box H' b := by
  obtain ⟨x, y, z, h, i⟩ := x
  exact ⟨x, y, z, s _ _ h, i⟩
theorem Box.fz {b : Addr} {H H' : Hp} (x : Box H b) (s : But b H H') : Fz H H' := fun a o f h => by
  refine s a o ?_ h
  rintro rfl
  obtain ⟨x, y, z, h', i⟩ := x
  rw [h'] at h
  cases h
  exact f
theorem Box.ne_none {b p : Addr} {H : Hp} (x : Box H b) (h : H p = none) : p ≠ b := by
  rintro rfl
  obtain ⟨x, y, z, h', i⟩ := x
  rw [h] at h'
  cases h'
theorem ifB {b : Bool} {A B : Prop} (h1 : b = true → A) (h2 : b = false → B) : if b = true then A else B := by
  cases b with
  | true => rw [if_pos rfl]; exact h1 rfl
  | false => rw [if_neg Bool.false_ne_true]; exact h2 rfl
theorem ifD {c A B : Prop} [Decidable c] (h1 : c → A) (h2 : ¬ c → B) : if decide c = true then A else B := ifB (fun e => h1 (of_decide_eq_true e)) (fun e => h2 (of_decide_eq_false e))
theorem ifN {c A B : Prop} [Decidable c] (h1 : ¬ c → A) (h2 : c → B) : if (!decide c) = true then A else B := by
  by_cases h : c
  · rw [decide_eq_true h]; exact h2 h
  · rw [decide_eq_false h]; exact h1 h
theorem ifT {b : Bool} {A B : Prop} (e : b = true) (h1 : A) : if b = true then A else B := by rw [if_pos e]; exact h1
theorem ifF {b : Bool} {A B : Prop} (e : b = false) (h1 : B) : if b = true then A else B := by rw [e, if_neg Bool.false_ne_true]; exact h1
theorem szL {n : Nat} (h : n ≤ 1000) : n ≤ sizeLine := Nat.le_trans h (by decide)
theorem szl {n : Nat} (h : n ≤ 1000) : n < sizeLine := Nat.lt_of_le_of_lt h (by decide)
theorem atI_ok {xs : List V} {i : Int} {j : Nat} {v : V} (h0 : 0 ≤ i) (e : i.toNat = j) (h : xs[j]? = some v) : atI xs i = some v := at_of (by omega) h
theorem ints_at {ns : List Int} {k : Int} (h0 : 0 ≤ k) (h1 : k < ns.length) : ∃ z, atI (ns.map V.int) k = some (.int z) := by
  have h2 : k.toNat < ns.length := by omega
  exact ⟨ns[k.toNat], atI_ok h0 rfl (by rw [List.getElem?_map, List.getElem?_eq_getElem h2]; rfl)⟩
theorem range_succ_map {α : Type} (f : Nat → α) (i : Nat) : (List.range (i + 1)).map f = (List.range i).map f ++ [f i] := by
  rw [List.range_succ, List.map_append]; rfl
theorem DtAll.snoc {K : PySem.W.Frag} {H : Hp} {v : List V} {d : List PyData} {x : V} {y : PyData} (h : DtAll K H v d) (k : Dt K H x y) : DtAll K H (v ++ [x]) (d ++ [y]) := h.append (.cons k .nil)
theorem same_lst {H H' : Hp} {p : Addr} {o : HO} (s : Same H H') (n : H p = none) : Same H (upd H' p o) := fun a u e => by
  rw [upd_ne (ne_of_none e n)]
  exact s a u e
theorem natAbs_abs {i : Int} : 0 ≤ (if i < 0 then -i else i) := by split <;> omega
theorem pick2 (b : Bool) (u v : Int) : atI [.int u, .int v] (if b = true then 1 else 0) = some (V.int (if b = true then v else u)) := by
  cases b <;> rfl
theorem ite_ge0 {b : Bool} {u v : Int} (h1 : 0 ≤ u) (h2 : 0 ≤ v) : 0 ≤ (if b = true then v else u) := by cases b <;> assumption
theorem mem_at {xs : List V} {k : Int} (h0 : 0 ≤ k) (h1 : k < xs.length) : ∃ v, v ∈ xs ∧ atI xs k = some v := by
  have h2 : k.toNat < xs.length := by omega
  exact ⟨xs[k.toNat], List.getElem_mem h2, atI_ok h0 rfl (List.getElem?_eq_getElem h2)⟩
/-! reading tuples of data -/
def atD (ds : List PyData) (i : Int) : Option PyData := (ixN ds.length i).bind fun j => ds[j]?
theorem DtAll.at {K : PySem.W.Frag} {H : Hp} {xs : List V} {ds : List PyData} {i : Int} {d : PyData} (h : DtAll K H xs ds) (e : atD ds i = some d) : ∃ v, atI xs i = some v ∧ Dt K H v d := by
  unfold atD at e
  unfold atI
  rw [h.length]
  cases q : ixN ds.length i with
  | none => rw [q] at e; cases e
  | some j =>
    rw [q] at e
    exact h.get e
theorem rix_dt {K : PySem.W.Frag} {H : Hp} {v : V} {i : Int} {ds : List PyData} {d : PyData} {Q : VK} (h : Dt K H v (.tuple ds)) (e : atD ds i = some d) (q : ∀ y, Dt K H y d → Q y H) : rIxT K v (.int i) H Q := by
  cases h with
  | tup hs ha =>
    obtain ⟨y, h1, h2⟩ := ha.at e
    exact ⟨_, _, _, _, rfl, rfl, hs, h1, q y h2⟩
theorem Dt.int_eq {K : PySem.W.Frag} {H : Hp} {v : V} {i : Int} (h : Dt K H v (.int i)) : v = .int i := by cases h; rfl
theorem Dt.str_eq {K : PySem.W.Frag} {H : Hp} {v : V} {i : Str} (h : Dt K H v (.str i)) : v = .str i := by cases h; rfl
theorem atD_nat {ds : List PyData} {j : Nat} {d : PyData} (e : ds[j]? = some d) : atD ds ((j : Nat) : Int) = some d := by
  have h := (List.getElem?_eq_some_iff.mp e).1
  unfold atD ixN
  rw [if_pos (by omega), if_pos (by omega)]
  exact e
theorem atD_last {ds : List PyData} {d : PyData} (h : 0 < ds.length) (e : ds[ds.length - 1]? = some d) : atD ds (-1) = some d := by
  unfold atD ixN
  rw [if_neg (by omega), if_pos (by omega)]
  show ds[((-1 : Int) + ds.length).toNat]? = some d
  rw [show ((-1 : Int) + ds.length).toNat = ds.length - 1 by omega]
  exact e
def tyD : PyData → String
  | .none => "NoneType"
  | .bool _ => "bool"
  | .int _ => "int"
  | .str _ => "str"
  | .list _ => "list"
  | .tuple _ => "tuple"
  | .dict _ => "dict"
theorem sqT_ty {K : PySem.W.Frag} {H : Hp} {a : Addr} {xs : List V} (h : SqT K H a xs) : TyX K H (.ref a) (.type "tuple") := by
  rcases h with (h | ⟨o, h⟩) | ⟨o, its, n, h1, h2, _⟩
  · exact .base (.tup h)
  · exact .fTuple h
  · exact .kTuple h1 h2
theorem Dt.ty {K : PySem.W.Frag} {H : Hp} {v : V} {d : PyData} (h : Dt K H v d) : TyX K H v (.type (tyD d)) := by
  cases h with
  | non => exact .base .non
  | bl b => exact .base (.bl b)
  | int i => exact .base (.int i)
  | str x => exact .base (.str x)
  | tup h _ => exact sqT_ty h
theorem neF {a b : Int} (h : a = b) : (!decide (V.int a = V.int b)) = false := by rw [h]; simp
theorem Dt.len {K : PySem.W.Frag} {H : Hp} {a : Addr} {ds : List PyData} (h : Dt K H (.ref a) (.tuple ds)) : ∃ xs, SqT K H a xs ∧ xs.length = ds.length ∧ DtAll K H xs ds := by
  cases h with
  | tup h hs => exact ⟨_, h, hs.length, hs⟩

structure okD (k : Nat) (d : PyData) : Prop where
  lay : d.canLay0 = true
  dep : d.depth ≤ k
theorem okD.mono {k l : Nat} {d : PyData} (h : okD k d) (e : k ≤ l) : okD l d := ⟨h.lay, Nat.le_trans h.dep e⟩
theorem okD_all {k : Nat} : ∀ {ds : List PyData}, (∀ d ∈ ds, okD k d) → PyData.canLayAll0 ds = true ∧ PyData.depthAll ds ≤ k
  | [], _ => ⟨rfl, Nat.zero_le _⟩
  | d :: ds, h => by
    have h1 := h d List.mem_cons_self
    have h2 := okD_all (ds := ds) fun x hx => h x (List.mem_cons_of_mem _ hx)
    refine ⟨?_, ?_⟩
    · show (PyData.canLay0 d && PyData.canLayAll0 ds) = true
      rw [h1.lay, h2.1]; rfl
    · show max (PyData.depth d) (PyData.depthAll ds) ≤ k
      exact Nat.max_le.mpr ⟨h1.dep, h2.2⟩
theorem okD.tuple {k : Nat} {ds : List PyData} (h : ∀ d ∈ ds, okD k d) : okD (k + 1) (.tuple ds) :=
  have q := okD_all h
  ⟨q.1, Nat.succ_le_succ q.2⟩
theorem okD.list {k : Nat} {ds : List PyData} (h : ∀ d ∈ ds, okD k d) : okD (k + 1) (.list ds) :=
  have q := okD_all h
  ⟨q.1, Nat.succ_le_succ q.2⟩
theorem okD.shaped {k : Nat} {d : PyData} (h : okD k d) (hk : k ≤ 64) : SeqAt.shaped d = true := by
  unfold SeqAt.shaped
  rw [h.lay, decide_eq_true (Nat.le_trans h.dep hk)]; rfl
theorem eqv_self {k : Nat} {d : PyData} (h : okD k d) : PyData.eqv d d = true := SeqAt.eqv_refl d h.lay
theorem rne_dt {K : PySem.W.Frag} {H : Hp} {x y : V} {k : Nat} {d : PyData} {Q : VK} (hx : Dt K H x d) (hy : Dt K H y d) (o : okD k d) (hk : k ≤ 64) (q : Q (.bl false) H) : rNeD K x y H Q :=
  ⟨d, d, hx.dp, hy.dp, o.shaped hk, o.shaped hk, by rw [eqv_self o]; exact q⟩
theorem req_dt {K : PySem.W.Frag} {H : Hp} {x y : V} {k : Nat} {d : PyData} {Q : VK} (hx : Dt K H x d) (hy : Dt K H y d) (o : okD k d) (hk : k ≤ 64) (q : Q (.bl true) H) : rEqD K x y H Q :=
  ⟨d, d, hx.dp, hy.dp, o.shaped hk, o.shaped hk, by rw [eqv_self o]; exact q⟩

theorem atD0 {ds : List PyData} {d : PyData} (e : ds[0]? = some d) : atD ds 0 = some d := atD_nat (j := 0) e
theorem atD1 {ds : List PyData} {d : PyData} (e : ds[1]? = some d) : atD ds 1 = some d := atD_nat (j := 1) e
theorem atD2 {ds : List PyData} {d : PyData} (e : ds[2]? = some d) : atD ds 2 = some d := atD_nat (j := 2) e
theorem atD3 {ds : List PyData} {d : PyData} (e : ds[3]? = some d) : atD ds 3 = some d := atD_nat (j := 3) e
theorem atDi {ds : List PyData} {d : PyData} {i : Int} {j : Nat} (h : i = (j : Int)) (e : ds[j]? = some d) : atD ds i = some d := by
  subst h
  exact atD_nat e

theorem floor_step {a b n : Int} (h : 0 < n) : b / n ≤ (a + b) / n - a / n ∧ (a + b) / n - a / n ≤ b / n + 1 := by
  have ha := Int.emod_add_mul_ediv a n
  have hb := Int.emod_add_mul_ediv b n
  have a0 := Int.emod_nonneg a (show n ≠ 0 by omega)
  have a1 := Int.emod_lt_of_pos a h
  have b0 := Int.emod_nonneg b (show n ≠ 0 by omega)
  have b1 := Int.emod_lt_of_pos b h
  have e : (a + b) / n = a / n + b / n + (a % n + b % n) / n := by
    have : a + b = (a % n + b % n) + n * (a / n + b / n) := by rw [Int.mul_add]; omega
    rw [this, Int.add_mul_ediv_left _ _ (by omega), Int.add_comm]
  have q0 : 0 ≤ (a % n + b % n) / n := Int.ediv_nonneg (by omega) (by omega)
  have q1 : (a % n + b % n) / n < 2 := by
    apply Int.ediv_lt_of_lt_mul h
    omega
  omega

theorem take_snoc {α : Type} {l : List α} {i : Nat} {x : α} (h : l[i]? = some x) : l.take (i + 1) = l.take i ++ [x] := by
  rw [List.take_add_one, h]; rfl
theorem map_int_get {acc : List Int} {i : Nat} {x : V} (h : (acc.map V.int)[i]? = some x) : ∃ z, acc[i]? = some z ∧ x = .int z := by
  rw [List.getElem?_map] at h
  cases e : acc[i]? with
  | none => rw [e] at h; cases h
  | some z =>
    rw [e] at h
    exact ⟨z, rfl, (Option.some.inj h).symm⟩

theorem Dt.ix {K : PySem.W.Frag} {H : Hp} {v : V} {i : Int} {ds : List PyData} {d : PyData} (h : Dt K H v (.tuple ds)) (e : atD ds i = some d) : ∃ a xs y, v = .ref a ∧ SqT K H a xs ∧ atI xs i = some y ∧ Dt K H y d := by
  cases h with
  | tup hs ha =>
    obtain ⟨y, h1, h2⟩ := ha.at e
    exact ⟨_, _, _, rfl, hs, h1, h2⟩

/-! displays of data -/
def EvD (K : PySem.W.Frag) (te : TE) (σ : L2.St) (H : Hp) (d : PyData) : Prop := ∀ Q : VK, (∀ v H', Same H H' → Dt K H' v d → Q v H') → te σ H Q
def EvDs (K : PySem.W.Frag) (ta : TA) (σ : L2.St) (H : Hp) (ds : List PyData) : Prop := ∀ Q : List V → Hp → Prop, (∀ vs H', Same H H' → DtAll K H' vs ds → Q vs H') → ta σ H Q
section
variable {K : PySem.W.Frag} {σ : L2.St} {H : Hp}
theorem evd_int {i : Int} : EvD K (tC (.int i)) σ H (.int i) := fun _ q => q _ _ (Same.refl _) (.int i)
theorem evd_str {i : Str} : EvD K (tC (.str i)) σ H (.str i) := fun _ q => q _ _ (Same.refl _) (.str i)
theorem evd_non : EvD K (tC .non) σ H .none := fun _ q => q _ _ (Same.refl _) .non
theorem evd_bl {b : Bool} : EvD K (tC (.bl b)) σ H (.bool b) := fun _ q => q _ _ (Same.refl _) (.bl b)
theorem evd_nil : EvDs K tNil σ H [] := fun _ q => q _ _ (Same.refl _) .nil
theorem evd_cons {te : TE} {ta : TA} {d : PyData} {ds : List PyData} (h : EvD K te σ H d) (hr : ∀ H', EvDs K ta σ H' ds) : EvDs K (tCons te ta) σ H (d :: ds) := fun Q q =>
  h _ fun v H1 s1 d1 => hr H1 _ fun vs H2 s2 d2 => q _ _ (s1.trans s2) (.cons (d1.mono (Fz.of_same s2)) d2)
theorem evd_tup {ta : TA} {ds : List PyData} (h : EvDs K ta σ H ds) (hl : ds.length ≤ 1000) : EvD K (tTup ta) σ H (.tuple ds) := fun Q q =>
  h _ fun vs H1 s1 d1 => ⟨szL (by rw [d1.length]; exact hl), fun p hp => q _ _ (s1.trans (same_new hp)) (.tup (SqT.of upd_same) (d1.mono (Fz.new hp)))⟩
end
theorem same_but {b : Addr} {H H1 H2 : Hp} (s : Same H H1) (k : But b H1 H2) (n : H b = none) : Same H H2 := fun a o h => k a o (ne_of_none h n) (s a o h)

theorem rel_ref (a : Addr) : RelV (.ref a) (Value.ref a) := rfl
end Rs
/-! Own exceptions with a field; objects made within a try. -/
namespace Rs
open PySem PySem.Spec PyProof.Rows L2
/-! ### C(e, ..) where what its __init__ lets out is wished for at the caller's slots -/
section
variable {X : Cx} {CX : CXT} {k : Nat} {f C : Addr} {fd : FuncData} {ps : List Str} {sp : Sp} {E : L2.St → XK} {x : Str} {p pos : Pos} {e : Expr} {es : List Expr} {t : TA}
theorem run_makeS {pins : List (Addr × Obj)} {σ : L2.St} {H : Hp} {s : Shared} {Q : VK} {us : List Value} {vs : List V} (M : Mk X.K C f) (F : FnOk X.prog X.w X.K X.mg X.base CX k f fd ps sp) (hr : Room (k + 1) X.A) (hb : Binds X.K fd ps [])
    (hx : PassesAt CX X σ (E σ)) (I : Inv X pins σ H s) (r : Vals vs us)
    (pre : ∀ x dx, H x = none → H dx = none → dx ≠ x → sp (.ref x :: vs) (upd (upd H dx (.own x)) x (.ins C dx [])) (fun v H2 => v = .non ∧ Q (.ref x) H2) (E σ))
    (out : ∀ H1 s1 e s2, Inv X pins σ H1 s1 → L2.CX X.prog X.w X.stack H1 s1 (E σ) e s2 → X.xe e s2) (hCX : CX = L2.CX X.prog X.w) :
    wpAny (model X.prog X.w) X.A (call (.ref C) us) (EP X pins σ Q) X.xe s := by
  subst hCX
  have p0 := pre (s.heap.objs.size + 1) s.heap.objs.size (I.hok.fresh (Nat.le_succ _)) (I.hok.fresh (Nat.le_refl _)) (Nat.ne_of_lt (Nat.lt_succ_self _))
  have J := Inv.made (C := C) I
  have rel : Vals (V.ref (s.heap.objs.size + 1) :: vs) (Value.ref (s.heap.objs.size + 1) :: us) := .cons rfl r
  have n1 : (Value.ref (s.heap.objs.size + 1) :: us).length = ps.length := by rw [← rel.length]; exact F.len _ _ _ _ p0
  have bd := hb _ (Value.ref (s.heap.objs.size + 1) :: us) J.kIn (by rw [List.append_nil]; exact n1)
  rw [List.append_nil] at bd
  have ran := F.run _ X.stack _ _ ⟨Value.ref (s.heap.objs.size + 1) :: us, []⟩ _ _ _ (E σ) (hr.make C us []) (J.env0.make C us []) bd rel p0
  refine wpAny_call (make_map (f := f) I.kIn M.makes M.init (beq_iff_eq.mp M.fn) (codeAny_mono ran fun r s' got => ?_))
  cases r with
  | error e => exact out _ _ _ _ J got
  | ok fl =>
    cases fl with
    | next => exact got.elim
    | brk => exact got.elim
    | cont => exact got.elim
    | ret u =>
      obtain ⟨v, H', J2, rv, rfl, q⟩ := J.after got
      exact ⟨rv, .ref (s.heap.objs.size + 1), H', J2, rfl, q⟩
def tMakeS (C : Addr) (sp : Sp) (E : L2.St → XK) (t : TA) : TE := fun σ H Q => t σ H fun vs H1 => ∀ x dx, H1 x = none → H1 dx = none → dx ≠ x →
  sp (.ref x :: vs) (upd (upd H1 dx (.own x)) x (.ins C dx [])) (fun v H2 => v = .non ∧ Q (.ref x) H2) (E σ)
theorem pe_makeS {W : WX} (M : Mk X.K C f) (F : FnOk X.prog X.w X.K X.mg X.base (L2.CX X.prog X.w) k f fd ps sp) (hr : Room (k + 1) X.A) (hg : Gl X x) (hm : X.mg x = some (.ref C)) (hb : Binds X.K fd ps []) (tk : Takes X W)
    (ha : PA X (e :: es) t) (hdb : (x == ("__debug__" : Str)) = false := by decide) (he : starEach (e :: es) X.env = (false, eval e X.env) :: starEach es X.env := by rfl) (hpl : (backTo pos (starEach es X.env)).any (·.1) = false := by rfl) :
    PE X (.Call (.Name x p) (e :: es) [] pos) (tMakeS C sp (WE W) t) := by
  refine ⟨fun pins s σ H Q I h => wpAny_Call_Name_kw (ld_glob I hg hm ?_ hdb)⟩
  refine PySem.W.callWith_K (h₀ := X.base) I.ok.mod.kin M.kp (thn (ha.run pos pins s σ H _ I h) fun us s1 res => ?_) he hpl
  obtain ⟨vs, H1, I1, r, q⟩ := res
  exact ⟨I1.kIn, run_makeS M F hr hb (passAt tk σ) I1 r q (fun H1 s1 e s2 J c => tk e s2 (XE.of_call J (fun _ _ _ h => h) c)) rfl⟩
end
/-! ### isinstance of a caught exception that has a field -/
structure ExX (K : PySem.W.Frag) (C : Addr) : Prop where
  cl : (PySem.W.clsIn K C).isSome = true
  ga : PySem.W.findIn K (.ref C) "__getattribute__" = some (some (.builtin "BaseException.__getattribute__"))
  gg : PySem.W.findIn K (.ref C) "__getattr__" = some none
  sb : PySem.W.subIn K (.ref C) (.type "BaseException") = some true
  ca : PySem.W.findIn K (.ref C) "__class__" = some (some (.builtin "object.__class__"))
  sp : PySem.W.specialIn K (.builtin "object.__class__") "__get__" = some (some (.builtin "getset_descriptor.__get__"))
  tk : PySem.W.takesIn K (.builtin "object.__class__") = some true
  mo : PySem.W.mroIn K C (.type "object") = some true
section
variable {X : Cx} {pins : List (Addr × Obj)} {σ : L2.St} {H : Hp} {s : Shared} {a C : Addr} {oe : Obj} {cls : Value} {d : Option Addr} {pn : List (Addr × Obj)}
theorem caught_at (I : Inv (X.suite a ((a, oe) :: pn)) pins σ H s) (hz : Zc cls d oe) (hf : ∃ vs, oe.data = .fields vs) {dd : Addr} {fs : List (Str × V)} (ec : cls = .ref C) (ed : d = some dd) (hd : H dd = some (.xd fs)) :
    ∃ od, PySem.W.InstAt s.heap a oe C (some od) := by
  subst ec ed
  obtain ⟨here, _⟩ := I.pin (a, oe) (List.mem_append_left _ List.mem_cons_self)
  obtain ⟨vs, hv⟩ := hf
  obtain ⟨mA, ns, _⟩ := (show ObjOk X.prog X.w H s.heap dd (.xd fs) from I.hok dd _ hd)
  obtain ⟨od, ho, _⟩ := lookIn_ns ns
  exact ⟨od, here, hz.1, by unfold PySem.W.notCls; rw [hv] <;> rfl, by rw [hz.2]; exact ho⟩
def rIsX (K : PySem.W.Frag) (a : Addr) (cls : Value) (d : Option Addr) (C : Addr) : List V → Hp → VK → Prop := fun xs H Q => ∃ (c : V) (cv : Value) (b : Bool) (dd : Addr) (fs : List (Str × V)), xs = [.ref a, c] ∧ ClsV c cv ∧ cls = .ref C ∧ d = some dd ∧ H dd = some (.xd fs) ∧ PySem.W.kitOne K (.ref C) cv = some b ∧ Q (.bl b) H
theorem call_isX (T : ExX X.K C) (hz : Zc cls d oe) (hf : ∃ vs, oe.data = .fields vs) : CallR (X.suite a ((a, oe) :: pn)) (.builtin "isinstance") (rIsX X.K a cls d C) := by
  intro pins s σ H xs us Q I r h
  obtain ⟨c, cv, b, dd, fs, rfl, kc, ec, ed, hd, e, q⟩ := h
  obtain ⟨u1, u2, rfl, r1, r2⟩ := vals2 r
  obtain rfl := kc.eq r2
  cases (show u1 = Value.ref a from r1)
  obtain ⟨od, J⟩ := caught_at I hz hf ec ed hd
  exact PySem.W.kia_one (PySem.W.kitx_exc T.cl T.ga T.gg T.sb T.ca T.sp T.tk T.mo) I.kIn J e (fun z => nomatch z) fun tk => ⟨.bl b, H, I.tok tk, rfl, q⟩
def rIsXT (K : PySem.W.Frag) (a : Addr) (cls : Value) (d : Option Addr) (C : Addr) : List V → Hp → VK → Prop := fun xs H Q => ∃ (tp : Addr) (cs : List V) (ws : List Value) (b : Bool) (dd : Addr) (fs : List (Str × V)), xs = [.ref a, .ref tp] ∧ H tp = some (.tup cs) ∧ Paired ClsV cs ws ∧
  cls = .ref C ∧ d = some dd ∧ H dd = some (.xd fs) ∧ PySem.W.kitAny K (.ref C) ws = some b ∧ Q (.bl b) H
theorem call_isXT (T : ExX X.K C) (hz : Zc cls d oe) (hf : ∃ vs, oe.data = .fields vs) : CallR (X.suite a ((a, oe) :: pn)) (.builtin "isinstance") (rIsXT X.K a cls d C) := by
  intro pins s σ H xs us Q I r h
  obtain ⟨tp, cs, ws, b, dd, fs, rfl, hT, kc, ec, ed, hd, e, q⟩ := h
  obtain ⟨u1, u2, rfl, r1, r2⟩ := vals2 r
  cases (show u1 = Value.ref a from r1)
  cases (show u2 = Value.ref tp from r2)
  obtain ⟨od, J⟩ := caught_at I hz hf ec ed hd
  obtain ⟨_, its, rv, o, h1, h2, n, h3⟩ := (show ObjOk X.prog X.w H s.heap tp (.tup cs) from I.hok tp _ hT)
  obtain rfl := ClsV.all kc rv
  obtain ⟨oc, od', dt, sl⟩ := o
  simp only at h2 h3
  subst h2 h3
  exact PySem.W.kia_tup (PySem.W.kitx_exc T.cl T.ga T.gg T.sb T.ca T.sp T.tk T.mo) I.kIn J h1 e (fun z => nomatch z) fun tk => ⟨.bl b, H, I.tok tk, rfl, q⟩
end
/-! ### the promise of an __init__(self, word): self.word = word -/
def spExc (C : Addr) (f : Str) : Sp := fun vs H Q _ => ∃ (a : Addr) (v : V), vs = [.ref a, v] ∧ H a = some (exo a C none) ∧ ∀ dx, H dx = none → dx ≠ a → Q .non (upd (upd H dx (exd dx [(f, v)])) a (exo a C (some dx)))
/-- the heap behind an exception's making -/
theorem made_heap {H : Hp} {a dx : Addr} {o1 o2 o3 o : HO} (ha : H a = none) (ne : dx ≠ a) : upd (del (upd (upd (upd H a o1) dx o2) a o3) a) dx o = upd H dx o := by
  funext b
  by_cases h1 : b = dx
  · subst h1; rw [upd_same, upd_same]
  · rw [upd_ne h1, upd_ne h1]
    by_cases h2 : b = a
    · subst h2; rw [del_same, ha]
    · rw [del_ne h2, upd_ne h2, upd_ne h1, upd_ne h2]
/-- what C(v) asks, where C's __init__ keeps spExc: its dict is new, the rest as it was -/
theorem make_exc {C : Addr} {f : Str} {v : V} {σ : L2.St} {H : Hp} {Q : XK} (h : ∀ d, H d = none → Q (.ref C) (some d) (upd H d (.xd [(f, v)]))) : tMkO C (spExc C f) [] (tCons (tC v) tNil) σ H Q := by
  refine ⟨by show 1 ≤ 1000; decide, fun a ha => ⟨a, v, rfl, upd_same, fun dx hdx ne => ⟨rfl, dx, [(f, v)], upd_same, by rw [upd_ne ne, upd_same], ?_, ?_⟩⟩⟩
  · rw [upd_ne ne] at hdx
    exact hdx
  · rw [made_heap ha ne]
    exact h dx (by rw [upd_ne ne] at hdx; exact hdx)
end Rs
/-! Values of any kind, told by their outermost shape. -/
namespace Rs
open PySem PySem.Spec PyProof.Rows L2
def Sh (b : Addr) (H : Hp) : V → Prop
  | .non => True
  | .bl _ => True
  | .int _ => True
  | .str _ => True
  | .ref a => a ≠ b ∧ ((∃ xs, H a = some (.lst xs)) ∨ ∃ xs, H a = some (.tup xs))
  | _ => False
theorem Sh.but {b : Addr} {H H' : Hp} {v : V} (h : Sh b H v) (k : But b H H') : Sh b H' v := by
  cases v with
  | ref a =>
    obtain ⟨ne, ⟨xs, e⟩ | ⟨xs, e⟩⟩ := h
    · exact ⟨ne, .inl ⟨xs, k a _ ne e⟩⟩
    · exact ⟨ne, .inr ⟨xs, k a _ ne e⟩⟩
  | non => trivial
  | bl _ => trivial
  | int _ => trivial
  | str _ => trivial
  | byt _ => exact h
  | flt _ => exact h
  | ty _ => exact h
def isInt : V → Bool
  | .int _ => true
  | _ => false
def isBl : V → Bool
  | .bl _ => true
  | _ => false
theorem Sh.ty {K : PySem.W.Frag} {b : Addr} {H : Hp} {v : V} (h : Sh b H v) : ∃ t, TyX K H v (.type t) ∧ kitB t "int" = some (isInt v || isBl v) ∧ kitB t "bool" = some (isBl v) := by
  cases v with
  | non => exact ⟨"NoneType", .base .non, by decide +kernel, by decide +kernel⟩
  | bl x => exact ⟨"bool", .base (.bl x), (by decide +kernel : kitB "bool" "int" = some true), (by decide +kernel : kitB "bool" "bool" = some true)⟩
  | int x => exact ⟨"int", .base (.int x), (by decide +kernel : kitB "int" "int" = some true), (by decide +kernel : kitB "int" "bool" = some false)⟩
  | str x => exact ⟨"str", .base (.str x), (by decide +kernel : kitB "str" "int" = some false), (by decide +kernel : kitB "str" "bool" = some false)⟩
  | ref a =>
    obtain ⟨ne, ⟨xs, e⟩ | ⟨xs, e⟩⟩ := h
    · exact ⟨"list", .base (.lst e), (by decide +kernel : kitB "list" "int" = some false), (by decide +kernel : kitB "list" "bool" = some false)⟩
    · exact ⟨"tuple", .base (.tup e), (by decide +kernel : kitB "tuple" "int" = some false), (by decide +kernel : kitB "tuple" "bool" = some false)⟩
  | byt _ => exact h.elim
  | flt _ => exact h.elim
  | ty _ => exact h.elim
/-- whether a value is an integer that is no bool -/
def spWhole : Sp := fun vs H Q _ => ∃ (b : Addr) (v : V), vs = [v] ∧ Sh b H v ∧ Q (.bl (isInt v)) H
theorem isInt_bl {v : V} : (isInt v || isBl v) = true → (!isBl v) = isInt v := by cases v <;> simp [isInt, isBl]
theorem isInt_no {v : V} : (isInt v || isBl v) = false → false = isInt v := by cases v <;> simp [isInt, isBl]
/-- repr of None and of a text -/
def reprV : V → Str
  | .str x => reprText x
  | _ => "None"
theorem call_repr1 {X : Cx} : CallR X (.builtin "repr") (fun xs H Q => ∃ v, xs = [v] ∧ (v = .non ∨ ∃ x : Str, v = .str x ∧ (reprText x).length ≤ sizeLine) ∧ Q (.str (reprV v)) H) := by
  intro pins s σ H xs us Q I r h
  obtain ⟨v, rfl, rfl | ⟨x, rfl, ln⟩, q⟩ := h
  · obtain ⟨u, rfl, ru⟩ := vals1 r
    obtain rfl : u = Value.none := ru
    exact PySem.P.repr_of_none ⟨.str _, H, I.tok _, ⟨_, rfl⟩, q⟩
  · obtain ⟨u, rfl, t, rfl⟩ := vals1 r
    exact PySem.P.repr_of_str ⟨.str _, H, I.tok _, ⟨_, rfl⟩, q⟩ ln
theorem but_new {b D : Addr} {H H' : Hp} {o : HO} (k : But b H H') (n : H D = none) : But b H (upd H' D o) := fun a u ne e => by
  rw [upd_ne (ne_of_none e n)]
  exact k a u ne e
theorem box_ne {b D : Addr} {H : Hp} {o : HO} (B : Box H b) (ne : D ≠ b) : Box (upd H D o) b := by
  obtain ⟨x, y, z, h, i⟩ := B
  exact ⟨x, y, z, by rw [upd_ne ne.symm]; exact h, i⟩

theorem look1 {f : Str} {v : V} : List.lookup f [(f, v)] = some v := by simp [List.lookup]
theorem Sh.set {b t : Addr} {H : Hp} {v : V} {xs ys : List V} (h : Sh b H v) (e : H t = some (.lst xs)) : Sh b (upd H t (.lst ys)) v := by
  cases v with
  | ref a =>
    obtain ⟨ne, q⟩ := h
    refine ⟨ne, ?_⟩
    by_cases c : a = t
    · subst c
      exact .inl ⟨_, upd_same⟩
    · rw [upd_ne c]
      exact q
  | non => trivial
  | bl _ => trivial
  | int _ => trivial
  | str _ => trivial
  | byt _ => exact h
  | flt _ => exact h
  | ty _ => exact h
end Rs
/-! == and != by an own __eq__, with either answer, of anything. -/
namespace Rs
open PySem PySem.Spec PyProof.Rows L2
/-- what of the class at C: its own __eq__ is g, its != is object's -/
structure OwnQ (K : PySem.W.Frag) (C g : Addr) : Prop where
  eq : PySem.W.findIn K (.ref C) "__eq__" = some (some (.ref g))
  fn : PySem.W.isFn K (.ref g) = true
  ne : PySem.W.findIn K (.ref C) "__ne__" = some (some (.builtin "object.__ne__"))
  mo : PySem.W.mroIn K C (.type "object") = some true
section
variable {M : Model} {prog : Program} {w : World} {A : Around} {E : Value → Shared → Prop} {s : Shared} {K : PySem.W.Frag} {x C f L : Addr} {ox : Obj} {od : Option Obj} {h₀ : Heap} {m : Str → Option Value} {b tb : Value}
theorem ifBound_objNe {args : List Value} {Q : Option Value → Shared → Prop} (X : K.In s.heap) (I : PySem.W.InstAt s.heap x ox C od) (hs : PySem.W.findIn K (.ref C) "__ne__" = some (some (.builtin "object.__ne__")))
    (h : wpAny M A (call (.builtin "object.__ne__") (.ref x :: args)) (fun v => Q (some v)) E s) : wpAny M A (callSpecialIfBound? (.ref x) "__ne__" args) Q E s := by
  simp only [callSpecialIfBound?, bindSpecialIfBound?]
  refine wpAny_holding (wpAny_bind (wpAny_bind (wpAny_bind (I.type.here ((PySem.W.looks_findIn X hs).here ?_)))))
  refine wpAny_bind (wpAny_askSetting (wpAny_ite ?_))
  have fin : wpAny M A (call (.builtin "object.__ne__") ([.ref x] ++ args) >>= fun v => pure (some v)) Q E s := wpAny_bind (wpAny_mono h (fun v s' h' => wpAny_pure h') fun _ _ h' => h')
  split
  · exact wpAny_bind (wpAny_of_eq (F.cmp_object.ne.bind _) (wpAny_pure (by exact fin)))
  · exact wpAny_tryCatch (wpAny_bind (wpAny_of_eq (F.cmp_object.ne.bind _) (wpAny_pure (by exact fin))))
theorem objNe_entry (hu : A.units < cLine) (X : K.In s.heap) (I : PySem.W.InstAt s.heap x ox C od) (O : OwnQ K C f) {Q : Fin → Shared → Prop}
    (hcall : wpAny (model prog w) A (call (.ref f) [.ref x, b]) (fun v s' => ∃ r, v = .bool r ∧ Q (.done (.ret (.bool (!r)))) s') E s) :
    wpAny (model prog w) A (Builtin.«object.__ne__» ⟨[.ref x, b], []⟩) Q E s := by
  unfold Builtin.«object.__ne__»
  repeat (first
    | with_reducible refine wpAny_cRoomFor hu ?_
    | (refine wpAny_bind (m := callSpecialIfBound? (.ref x) (Str.ofString "__eq__") [b])
        (PySem.W.ifBound_K X I O.eq O.fn (wpAny_mono hcall (fun v s' hr => by
          obtain ⟨r, rfl, hq⟩ := hr
          repeat (first | exact hq | exact wpAny_pure hq | exact wpAny_truthy_bool hq | (refine wpAny_bind (m := truthy (.bool _)) (wpAny_truthy_bool ?_)) | wp_step)) fun _ _ e => e)))
    | wp_step)
theorem tryCompare_neO (hu : A.units + 1 < cLine) (X : K.In s.heap) (I : PySem.W.InstAt s.heap x ox C od) (O : OwnQ K C f) {Q : Option Value → Shared → Prop}
    (hcall : wpAny (model prog w) A.in1 (call (.ref f) [.ref x, b]) (fun v s' => ∃ r, v = .bool r ∧ Q (some (.bool (!r))) s') E s) : wpAny (model prog w) A (tryCompare (.ref x) "__ne__" b) Q E s := by
  simp only [tryCompare]
  refine wpAny_bind (ifBound_objNe X I O.ne (wpAny_call (codeAny_call_builtin F.cmp_object.ne.plain F.cmpEntry_ne
    (PySem.W.check_slot F.cmpKind_ne F.cmpSplit_ne (I.type.andThen (PySem.W.looks_mroIn X O.mo)) (F.cmpArgs_ne _ _)
      (objNe_entry (A := A.in1) hu X I O (wpAny_mono hcall (fun v s' hv => ?_) fun _ _ e => e))))))
  obtain ⟨r, rfl, hq⟩ := hv
  first | exact ⟨r, rfl, wpAny_pure hq⟩ | exact ⟨r, rfl, wpAny_pure (wpAny_pure hq)⟩ | exact ⟨r, rfl, hq⟩
theorem rc_neO (hu : A.units + 1 < cLine) (X : K.In s.heap) (I : PySem.W.InstAt s.heap x ox C od) (O : OwnQ K C f) (hb : PySem.W.Looks (model prog w) s.heap (typeOf b) tb) (hn : PySem.W.notFirst K C tb = true) {Q : Value → Shared → Prop}
    (hcall : wpAny (model prog w) A.in1 (call (.ref f) [.ref x, b]) (fun v s' => ∃ r, v = .bool r ∧ Q (.bool (!r)) s') E s) : wpAny (model prog w) A (richCompare .NotEq (.ref x) b) Q E s := by
  have one : wpAny (model prog w) A (tryCompare (.ref x) "__ne__" b) (fun r s' => ∃ v, r = some v ∧ Q v s') E s := tryCompare_neO hu X I O (wpAny_mono hcall (fun v s' hv => by
    obtain ⟨r, rfl, hq⟩ := hv
    exact ⟨r, rfl, _, rfl, hq⟩) fun _ _ e => e)
  unfold richCompare
  simp only [oneThing_ref]
  refine wpAny_holding (wpAny_bind (wpAny_cRoomFor (Nat.lt_of_succ_lt hu) ?_))
  refine wpAny_bind (I.type.here (wpAny_bind (hb.here ?_)))
  split
  · rename_i q
    have e : PySem.W.subIn K tb (.ref C) = some false := by
      rcases Bool.or_eq_true_iff.mp hn with e | e
      · rw [beq_iff_eq.mp e] at q; simp at q
      · exact beq_iff_eq.mp e
    refine wpAny_bind ((PySem.W.looks_subIn X e).here ?_)
    simp only [Bool.false_eq_true, if_false]
    refine wpAny_bind (wpAny_mono one (fun r s' z => ?_) fun _ _ e => e)
    obtain ⟨v, rfl, hq⟩ := z
    exact wpAny_pure hq
  · refine wpAny_bind (wpAny_pure ?_)
    simp only [Bool.false_eq_true, if_false]
    refine wpAny_bind (wpAny_mono one (fun r s' z => ?_) fun _ _ e => e)
    obtain ⟨v, rfl, hq⟩ := z
    exact wpAny_pure hq
end
theorem notFirst_ty {K : PySem.W.Frag} {C : Addr} {T : String} {ns : List String} (e : fastBuiltinMro T = some (ns.map Value.type)) : PySem.W.notFirst K C (.type T) = true := by
  have : PySem.W.subIn K (.type T) (.ref C) = some false := by
    show (fastBuiltinMro T).map (·.contains (.ref C)) = some false
    rw [e]
    simp
  unfold PySem.W.notFirst
  rw [this]
  simp
theorem notFirst_self {K : PySem.W.Frag} {C : Addr} : PySem.W.notFirst K C (.ref C) = true := by simp [PySem.W.notFirst]
theorem nf_none {K : PySem.W.Frag} {C : Addr} : PySem.W.notFirst K C (.type "NoneType") = true := notFirst_ty (ns := ["NoneType", "object"]) (by decide +kernel)
theorem nf_bool {K : PySem.W.Frag} {C : Addr} : PySem.W.notFirst K C (.type "bool") = true := notFirst_ty (ns := ["bool", "int", "object"]) (by decide +kernel)
theorem nf_int {K : PySem.W.Frag} {C : Addr} : PySem.W.notFirst K C (.type "int") = true := notFirst_ty (ns := ["int", "object"]) (by decide +kernel)
theorem nf_str {K : PySem.W.Frag} {C : Addr} : PySem.W.notFirst K C (.type "str") = true := notFirst_ty (ns := ["str", "object"]) (by decide +kernel)
theorem nf_list {K : PySem.W.Frag} {C : Addr} : PySem.W.notFirst K C (.type "list") = true := notFirst_ty (ns := ["list", "object"]) (by decide +kernel)
theorem nf_tuple {K : PySem.W.Frag} {C : Addr} : PySem.W.notFirst K C (.type "tuple") = true := notFirst_ty (ns := ["tuple", "object"]) (by decide +kernel)
section
variable {X : Cx} {CX : CXT} {pins : List (Addr × Obj)} {σ : L2.St} {H : Hp} {s : Shared} {C g : Addr} {n : Nat} {sp : Sp} {E : XK} {x : V} {u t : Value}
theorem ty_looks {M : Model} (I : Inv X pins σ H s) (rx : RelV x u) (ty : TyX X.K H x t) : PySem.W.Looks M s.heap (typeOf u) t := by
  obtain ⟨P, Z, hp, _⟩ := kit_of I rx ty
  exact Z.ty _ _ I.kIn hp
theorem ins_at {a dx : Addr} {fs : List (Str × V)} (I : Inv X pins σ H s) (h : H a = some (.ins C dx fs)) : ∃ ox od, PySem.W.InstAt s.heap a ox C od := by
  obtain ⟨mA, J, _⟩ := ins_get I.hok h
  obtain ⟨od, J, _⟩ := J.look
  exact ⟨_, _, J⟩
/-- x == y, x an instance of the class at C with its own __eq__ -/
def rEqO (K : PySem.W.Frag) (C : Addr) (sp : Sp) (E : XK) : R2 := fun x y H Q => ∃ a dx fs tb, x = .ref a ∧ H a = some (.ins C dx fs) ∧ TyX K H y tb ∧ PySem.W.notFirst K C tb = true ∧ sp [x, y] H Q E
theorem op_eqO (O : OwnQ X.K C g) (F : FnR X.prog X.w X.K X.mg X.base CX n g sp) (hr : Room n X.A) (hx : Passes CX X E) : OpR X (compareOp .Eq) (rEqO X.K C sp E) := by
  intro pins s σ H x y v u Q I rx ry h
  obtain ⟨a, dx, fs, tb, rfl, ha, ty, hn, q⟩ := h
  cases (show v = Value.ref a from rx)
  obtain ⟨ox, od, J⟩ := ins_at I ha
  obtain ⟨m, hF⟩ := I.fr
  show wpAny (model X.prog X.w) X.A (richCompare .Eq (.ref a) u) (EP X pins σ Q) X.xe s
  refine PySem.W.cmp_K (op := .Eq) (tb := tb) hr.units0 hF I.ok.mod.kin J (ty_looks I ry ty) hn O.eq O.fn ?_
  refine wpAny_mono (wpAny_call (run_fnR (us := [.ref a, u]) (vs := [.ref a, y]) F hr hx I (.cons rfl (.cons ry .nil)) q)) (fun w s' z => ?_) fun _ _ x => x
  obtain ⟨z', H', I', rz, qz⟩ := z
  exact SlX.cmpback rz ⟨z', H', I', rz, qz⟩
/-- x != y -/
def rNeO (K : PySem.W.Frag) (C : Addr) (sp : Sp) (E : XK) : R2 := fun x y H Q => ∃ a dx fs tb, x = .ref a ∧ H a = some (.ins C dx fs) ∧ TyX K H y tb ∧ PySem.W.notFirst K C tb = true ∧ sp [x, y] H (fun z H' => ∃ r, z = .bl r ∧ Q (.bl (!r)) H') E
theorem op_neO (O : OwnQ X.K C g) (F : FnR X.prog X.w X.K X.mg X.base CX n g sp) (hr : Room (n + 1) X.A) (hx : Passes CX X E) : OpR X (compareOp .NotEq) (rNeO X.K C sp E) := by
  intro pins s σ H x y v u Q I rx ry h
  obtain ⟨a, dx, fs, tb, rfl, ha, ty, hn, q⟩ := h
  cases (show v = Value.ref a from rx)
  obtain ⟨ox, od, J⟩ := ins_at I ha
  show wpAny (model X.prog X.w) X.A (richCompare .NotEq (.ref a) u) (EP X pins σ Q) X.xe s
  have hr1 : Room n X.A.in1 := Room.in1 hr
  refine rc_neO (C := C) (f := g) (tb := tb) (by have := hr.un; omega) I.kIn J O (ty_looks I ry ty) hn ?_
  refine wpAny_mono (wpAny_call (SlX.run_at (us := [.ref a, u]) (ws := [.ref a, y]) F hr1 I.env0.in1 hx I (.cons rfl (.cons ry .nil)) q)) (fun w s' z => ?_) fun _ _ x => x
  obtain ⟨z', H', I', rz, r, ez, qz⟩ := z
  subst ez
  cases (show w = Value.bool r from rz)
  exact ⟨r, rfl, .bl (!r), H', I', rfl, qz⟩
end
end Rs
/-! A built-in value == an instance with an own __eq__; such an instance in a tuple. -/
namespace Rs
open PySem PySem.Spec PyProof.Rows PySem.SeqAt L2 SeqRoads2 MeetsSeq MeetsSeq2 MeetsSeq3
open AutoSeq1 (wpAny_loadPart')
section
variable {prog : Program} {w : World} {A : Around} {E : Value → Shared → Prop} {s : Shared} {K : PySem.W.Frag} {x C f : Addr} {ox : Obj} {od : Option Obj}
theorem rc_eqR {T id : String} {u : Value} {Q : Value → Shared → Prop} (hu : A.units < cLine) (X : K.In s.heap) (I : PySem.W.InstAt s.heap x ox C od) (O : OwnQ K C f) (hT : s.TypeIs u T) (S : Slot T "__eq__" id)
    (hm : PySem.W.mroIn K C (.type T) = some false) (decl : wpAny (model prog w) A (call (.builtin id) [u, .ref x]) (fun v s' => v = .notImplemented ∧ s' = s) E s)
    (h : wpAny (model prog w) A (call (.ref f) [.ref x, u]) (PySem.W.CmpBack Q) E s) : wpAny (model prog w) A (richCompare .Eq u (.ref x)) Q E s := by
  have one : wpAny (model prog w) A (tryCompare u "__eq__" (.ref x)) (fun r s' => r = none ∧ s' = s) E s :=
    wpAny_tryCompare_declines hT S (wpAny_mono decl (fun v s' z => ⟨z.1, rfl, z.2⟩) fun _ _ e => e)
  have two : wpAny (model prog w) A (tryCompare (.ref x) "__eq__" u) (fun r s' => ∃ v, r = some v ∧ Q v s') E s := by
    unfold tryCompare
    refine wpAny_bind (PySem.W.ifBound_K X I O.eq O.fn (wpAny_mono h (fun v s' hv => ?_) fun _ _ e => e))
    cases v <;> first | exact hv.elim | exact wpAny_pure ⟨_, rfl, hv⟩
  simp only [richCompare, cmpInfo_Eq, hT.oneThing_none]
  refine wpAny_holding (wpAny_bind (wpAny_cRoomFor hu ?_))
  refine wpAny_bind (wpAny_typeOf hT ?_)
  refine wpAny_bind (I.type.here ?_)
  split
  · refine wpAny_bind ((PySem.W.looks_subIn X (t := .ref C) (base := .type T) hm).here ?_)
    simp only [Bool.false_eq_true, if_false, Bool.not_false, if_true]
    refine wpAny_bind (m := tryCompare u _ (.ref x)) (wpAny_mono one (fun r s1 z => ?_) fun _ _ e => e)
    obtain ⟨z1, z2⟩ := z
    subst z1
    subst z2
    refine wpAny_bind (m := tryCompare (.ref x) _ u) (wpAny_mono two (fun r s2 z => ?_) fun _ _ e => e)
    obtain ⟨v, rfl, hq⟩ := z
    exact wpAny_pure hq
  · rename_i q
    exact absurd (by simp) q
theorem str_eq_ins (a : Str) (t : Tok) (x C dx : Addr) : Meets (Builtin.«str.__eq__» ⟨[.str a t, .ref x], []⟩) (fun _ R s => s.heap.get? x = some (PySem.W.instObj C dx) ∧ R (.ok (.ret .notImplemented)) s) :=
  .of_wp fun prog w A R s h => by
    obtain ⟨hp, g, d, tk, os⟩ := s; obtain ⟨hl, h⟩ := h
    unfold PySem.W.instObj at hl
    wp_walk using wpAny_loadPart' hl
    exact ⟨_, rfl, h⟩
theorem wpAny_sub' {M : Model} {A : Around} {E : Value → Shared → Prop} {h : Heap} {g : Array GenState} {d : Drawn} {t : Nat} {os : OsState} {a b : Value} {r : Bool} {Q : Bool → Shared → Prop}
    (x : PySem.W.Looks M h (isSubtype a b) r) (hq : Q r ⟨h, g, d, t, os⟩) : wpAny M A (isSubtype a b) Q E ⟨h, g, d, t, os⟩ := PySem.W.Looks.here (s := ⟨h, g, d, t, os⟩) x hq
theorem tuple_eq_ins (l x C dx : Addr) (hm : PySem.W.mroIn K C (.type "tuple") = some false) :
    Meets (Builtin.«tuple.__eq__» ⟨[.ref l, .ref x], []⟩) (fun _ R s => K.In s.heap ∧ s.heap.get? x = some (PySem.W.instObj C dx) ∧ R (.ok (.ret .notImplemented)) s) :=
  .of_wp fun prog w A R s h => by
    obtain ⟨hp, g, d, tk, os⟩ := s; obtain ⟨X, hl, h⟩ := h
    unfold PySem.W.instObj at hl
    have L : PySem.W.Looks (model prog w) hp (isSubtype (.ref C) (.type "tuple")) false := PySem.W.looks_subIn X hm
    wp_walk using wpAny_loadPart' hl, wpAny_sub' L
    exact ⟨_, rfl, h⟩
theorem list_eq_ins (l x C dx : Addr) (hm : PySem.W.mroIn K C (.type "list") = some false) :
    Meets (Builtin.«list.__eq__» ⟨[.ref l, .ref x], []⟩) (fun _ R s => K.In s.heap ∧ s.heap.get? x = some (PySem.W.instObj C dx) ∧ R (.ok (.ret .notImplemented)) s) :=
  .of_wp fun prog w A R s h => by
    obtain ⟨hp, g, d, tk, os⟩ := s; obtain ⟨X, hl, h⟩ := h
    unfold PySem.W.instObj at hl
    have L : PySem.W.Looks (model prog w) hp (isSubtype (.ref C) (.type "list")) false := PySem.W.looks_subIn X hm
    wp_walk using wpAny_loadPart' hl, wpAny_sub' L
    exact ⟨_, rfl, h⟩
theorem int_eq_ins (i : Int) (t : Tok) (x C dx : Addr) : Meets (Builtin.«int.__eq__» ⟨[.int i t, .ref x], []⟩) (fun _ R s => s.heap.get? x = some (PySem.W.instObj C dx) ∧ R (.ok (.ret .notImplemented)) s) :=
  .of_wp fun prog w A R s h => by
    obtain ⟨hp, g, d, tk, os⟩ := s; obtain ⟨hl, h⟩ := h
    unfold PySem.W.instObj at hl
    wp_walk using wpAny_loadPart' hl
    exact ⟨_, rfl, h⟩
/-- u in a builtin's loop against an instance -/
theorem eqBool_ins {u : Value} {Q : Bool → Shared → Prop} (hne : (u == Value.ref x) = false) (h : wpAny (model prog w) A (richCompare .Eq u (.ref x)) (fun v s' => ∃ r, v = .bool r ∧ Q r s') E s) : wpAny (model prog w) A (eqBool u (.ref x)) Q E s := by
  unfold eqBool
  refine wpAny_holding ?_
  refine wpAny_ite_split (fun hab => by rw [hne] at hab; cases hab) (fun _ => ?_)
  cases u <;> (
    refine wpAny_bind (wpAny_mono h (fun v s' hv => ?_) fun _ _ x => x)
    obtain ⟨r, rfl, q⟩ := hv
    exact wpAny_truthy_bool q)
theorem tuple_inG {R : Result → Shared → Prop} (l : Addr) (items : Array Value) (n : Nat) (dd : Option Addr) (sl : Array (Option Value)) (y : Value) (I : Shared → Prop)
    (turn : ∀ z, z ∈ items → ∀ s, I s → wpAny (model prog w) A.in1 (eqBool z y) (fun r s' => r = false ∧ I s') (fun e s' => R (.error e) s') s)
    (fin : ∀ s, I s → R (.ok (.ret (.bool false))) s) (hl : s.heap.get? l = some { cls := .type "tuple", dict := dd, data := .seq items n, slots := sl }) (h : I s) :
    wpAny (model prog w) A.in1 (Builtin.«tuple.__contains__» ⟨[.ref l, y], []⟩) (GQ.FinOf prog w A R) (fun e s' => R (.error e) s') s := by
  obtain ⟨hp, g, d, tk, os⟩ := s
  wp_walk using wpAny_loadPart' hl, wpAny_forIn_array _ (fun rest b s' => b.1 = none ∧ I s' ∧ (∀ z, z ∈ rest → z ∈ items)) _

  case turn =>
    rintro z rest b s' ⟨hb, hI, hmem⟩
    refine wpAny_bind (wpAny_mono (turn z (hmem z (List.mem_cons_self ..)) s' hI) (fun r s2 q => ?_) fun _ _ x => x)
    obtain ⟨rfl, q2⟩ := q
    wp_walk
    exact ⟨rfl, q2, fun z hz => hmem z (List.mem_cons_of_mem _ hz)⟩
  case fin =>
    rintro ⟨b1, b2⟩ s' ⟨hb, hI, hmem⟩
    simp only at hb
    subst hb
    have hR := fin s' hI
    wp_walk
    exact hR
  case h =>
    exact ⟨rfl, h, fun z hz => by simpa using hz⟩
theorem in_tupG {l : Addr} {items : Array Value} {y : Value} {Q : Value → Shared → Prop} (I : Shared → Prop) (hl : s.heap.IsTuple l items)
    (turn : ∀ z, z ∈ items → ∀ s, I s → wpAny (model prog w) A.in1 (eqBool z y) (fun r s' => r = false ∧ I s') E s) (fin : ∀ s, I s → Q (.bool false) s) (h : I s) :
    wpAny (model prog w) A (compareOp .In y (.ref l)) Q E s := by
  obtain ⟨⟨cls, dd, data, sl⟩, ho, hc, n, hd⟩ := id hl
  simp only at hc hd
  subst hc hd
  show wpAny _ A (do return .bool (← contains (.ref l) y)) Q E s
  refine wpAny_bind (wpAny_contains_slot ⟨_, ho, rfl⟩ F.slot_tuple_contains (wpAny_mono (GQ.call_here F.slot_tuple_contains ⟨_, ho, rfl⟩ F.entry_tuple_contains (F.args_tuple_contains_2 _ _)
    (tuple_inG (R := wants (fun v s' => ∃ b, v = .bool b ∧ Q (.bool b) s') E) l items n dd sl y I turn (fun s' q => ⟨_, rfl, fin s' q⟩) ho h)) (fun v s' hv => ?_) fun _ _ e => e))
  obtain ⟨b, rfl, hq⟩ := hv
  exact wpAny_truthy_bool (wpAny_pure hq)
end
/-- the class at C is no subclass of these -/
structure OwnN (K : PySem.W.Frag) (C : Addr) : Prop where
  no : PySem.W.mroIn K C (.type "NoneType") = some false
  st : PySem.W.mroIn K C (.type "str") = some false
  tu : PySem.W.mroIn K C (.type "tuple") = some false
  li : PySem.W.mroIn K C (.type "list") = some false
  it : PySem.W.mroIn K C (.type "int") = some false
theorem Vals.of_mem : ∀ {xs : List V} {us : List Value}, Vals xs us → ∀ {u : Value}, u ∈ us → ∃ x, x ∈ xs ∧ RelV x u
  | _, _, .nil, _, h => by cases h
  | _, _, .cons r t, u, h => by
    rcases List.mem_cons.mp h with e | h
    · subst e
      exact ⟨_, List.mem_cons_self, r⟩
    · obtain ⟨x, hx, k⟩ := Vals.of_mem t h
      exact ⟨x, List.mem_cons_of_mem _ hx, k⟩
section
variable {X : Cx} {CX : CXT} {pins : List (Addr × Obj)} {σ : L2.St} {H : Hp} {s : Shared} {C g : Addr} {n : Nat} {sp : Sp} {E : XK}
theorem ins_obj {a dx : Addr} {fs : List (Str × V)} (I : Inv X pins σ H s) (h : H a = some (.ins C dx fs)) : ∃ od, PySem.W.InstAt s.heap a (PySem.W.instObj C dx) C od := by
  obtain ⟨mA, J, _⟩ := ins_get I.hok h
  obtain ⟨od, J, _⟩ := J.look
  exact ⟨_, J⟩
/-- kinds of values that an instance is compared with from the left -/
def OthV (K : PySem.W.Frag) (H : Hp) (z : V) : Prop := z = .non ∨ (∃ i, z = .str i) ∨ (∃ i, z = .int i) ∨ ∃ p ys, z = .ref p ∧ SqT K H p ys
def falseO (sp : Sp) (E : XK) (a : Addr) (z : V) (H : Hp) : Prop := sp [.ref a, z] H (fun v H' => v = .bl false ∧ H' = H) E
theorem rc_oth {A : Around} {a dx : Addr} {fs : List (Str × V)} {z : V} {u : Value} (O : OwnQ X.K C g) (N : OwnN X.K C) (FG : FnR X.prog X.w X.K X.mg X.base CX n g sp) (hr : Room n A) (e0 : Env0 X.prog X.w X.K X.mg X.base A X.stack s H) (hx : Passes CX X E)
    (I : Inv X pins σ H s) (ha : H a = some (.ins C dx fs)) (rz : RelV z u) (oz : OthV X.K H z) (q : falseO sp E a z H) :
    wpAny (model X.prog X.w) A (eqBool u (.ref a)) (fun r s' => r = false ∧ Inv X pins σ H s') X.xe s := by
  obtain ⟨od, J⟩ := ins_obj I ha
  have run : wpAny (model X.prog X.w) A (call (.ref g) [.ref a, u]) (PySem.W.CmpBack (fun v s' => ∃ r, v = .bool r ∧ r = false ∧ Inv X pins σ H s')) X.xe s := by
    refine wpAny_mono (wpAny_call (SlX.run_at (us := [.ref a, u]) (ws := [.ref a, z]) FG hr e0 hx I (.cons rfl (.cons rz .nil)) q)) (fun w s' y => ?_) fun _ _ x => x
    obtain ⟨z', H', I', ry, e1, e2⟩ := y
    subst e1
    subst e2
    cases (show w = Value.bool false from ry)
    exact ⟨false, rfl, rfl, I'⟩
  rcases oz with rfl | ⟨i, rfl⟩ | ⟨i, rfl⟩ | ⟨p, ys, rfl, hp⟩
  · cases (show u = Value.none from rz)
    exact eqBool_ins rfl (rc_eqR hr.units0 I.kIn J O (show s.TypeIs .none "NoneType" from rfl) F.slot_NoneType_eq N.no (call_gives F.slot_NoneType_eq rfl F.entry_NoneType_eq (F.args_NoneType_eq_2 _ _) (NoneType___eq___none_ref_0 a) ⟨rfl, rfl⟩) run)
  · obtain ⟨t, rfl⟩ := (show ∃ t, u = Value.str i t from rz)
    exact eqBool_ins rfl (rc_eqR hr.units0 I.kIn J O (show s.TypeIs (.str i t) "str" from rfl) F.slot_str_eq N.st (call_meets F.slot_str_eq rfl F.entry_str_eq (F.args_str_eq_2 _ _) (str_eq_ins i t a C dx) ⟨J.at_, rfl, rfl⟩) run)
  · obtain ⟨t, rfl⟩ := (show ∃ t, u = Value.int i t from rz)
    exact eqBool_ins rfl (rc_eqR hr.units0 I.kIn J O (show s.TypeIs (.int i t) "int" from rfl) F.slot_int_eq N.it (call_meets F.slot_int_eq rfl F.entry_int_eq (F.args_int_eq_2 _ _) (int_eq_ins i t a C dx) ⟨J.at_, rfl, rfl⟩) run)
  · cases (show u = Value.ref p from rz)
    obtain ⟨its, rv, ⟨o, ho, hc, _⟩, _⟩ := I.tuple hp
    have hne : (Value.ref p == Value.ref a) = false := by
      have : p ≠ a := by
        rintro rfl
        have e := J.at_
        rw [ho] at e
        cases e
        cases hc
      simp [this]
    exact eqBool_ins hne (rc_eqR hr.units0 I.kIn J O (show s.TypeIs (.ref p) "tuple" from ⟨_, ho, hc⟩) F.slot_tuple_eq N.tu (call_meets F.slot_tuple_eq ⟨_, ho, hc⟩ F.entry_tuple_eq (F.args_tuple_eq_2 _ _) (tuple_eq_ins p a C dx N.tu) ⟨I.kIn, J.at_, rfl, rfl⟩) run)
/-- x in a tuple of other things -/
def rInO (K : PySem.W.Frag) (C : Addr) (sp : Sp) (E : XK) : R2 := fun x y H Q => ∃ a dx fs t xs, x = .ref a ∧ H a = some (.ins C dx fs) ∧ y = .ref t ∧ SqT K H t xs ∧ (∀ z ∈ xs, OthV K H z ∧ falseO sp E a z H) ∧ Q (.bl false) H
theorem op_inO (O : OwnQ X.K C g) (N : OwnN X.K C) (F : FnR X.prog X.w X.K X.mg X.base CX n g sp) (hr : Room (n + 2) X.A) (hx : Passes CX X E) : OpR X (compareOp .In) (rInO X.K C sp E) := by
  intro pins s σ H x y v u Q I rx ry h
  obtain ⟨a, dx, fs, t, xs, rfl, ha, rfl, ht, hz, q⟩ := h
  cases (show v = Value.ref a from rx)
  cases (show u = Value.ref t from ry)
  obtain ⟨its, rv, e, _⟩ := I.tuple ht
  have hr1 : Room n X.A.in1 := Room.in1 (hr.mono (by omega))
  refine in_tupG (fun s' => Inv X pins σ H s') e (fun z hm s' I' => ?_) (fun s' I' => ⟨.bl false, H, I', rfl, q⟩) I
  obtain ⟨zz, hzz, rz⟩ := Vals.of_mem rv (by simpa using hm)
  exact rc_oth O N F hr1 I'.env0.in1 hx I' ha rz (hz zz hzz).1 (hz zz hzz).2
end
end Rs
/-! What a class with its own __eq__ is to isinstance; any value in a tuple of texts. -/
namespace Rs
open PySem PySem.Spec PyProof.Rows L2
theorem fnR {P : Program} {w : World} {K : PySem.W.Frag} {mg : Str → Option Value} {base : Heap} {CX : CXT} {k : Nat} {f : Addr} {fd : FuncData} {ps : List Str} {sp : Sp} (F : FnOk P w K mg base CX k f fd ps sp) (hb : Binds K fd ps []) : FnR P w K mg base CX k f sp :=
  (F.raw hb .nil).imp fun vs H Q E h => by
    show sp (vs ++ []) H Q E
    rw [List.append_nil]
    exact h
structure OwnI (K : PySem.W.Frag) (C : Addr) : Prop where
  cl : (PySem.W.clsIn K C).isSome = true
  tp : PySem.W.typeIn K (.ref C) = some (.type "type")
  ca : PySem.W.findIn K (.ref C) "__class__" = some (some (.builtin "object.__class__"))
  sp : PySem.W.specialIn K (.builtin "object.__class__") "__get__" = some (some (.builtin "getset_descriptor.__get__"))
  tk : PySem.W.takesIn K (.builtin "object.__class__") = some true
  mo : PySem.W.mroIn K C (.type "object") = some true
theorem OwnI.ty {K : PySem.W.Frag} {C a dx : Addr} {fs : List (Str × V)} {H : Hp} (h : OwnI K C) (c : Cls K C) (e : H a = some (.ins C dx fs)) : TyX K H (.ref a) (.ref C) := .base (.ins e c h.ca h.sp h.tk h.mo)
theorem kit_self {K : PySem.W.Frag} {C : Addr} : PySem.W.kitOne K (.ref C) (.ref C) = some true := by simp [PySem.W.kitOne]
theorem OwnI.no {K : PySem.W.Frag} {C : Addr} {T : String} {ns : List String} (h : OwnI K C) (e : fastBuiltinMro T = some (ns.map Value.type)) : PySem.W.kitOne K (.type T) (.ref C) = some false := by
  have h1 : PySem.W.subIn K (.type T) (.ref C) = some false := by
    show (fastBuiltinMro T).map (·.contains (.ref C)) = some false
    rw [e]
    simp
  unfold PySem.W.kitOne PySem.W.kitCls
  simp [h.cl, h.tp, h1]
/-- the built-in kinds that stand beside own instances -/
inductive BT : String → Prop
  | non : BT "NoneType"
  | bl : BT "bool"
  | int : BT "int"
  | str : BT "str"
  | lst : BT "list"
  | tup : BT "tuple"
theorem BT.nf {K : PySem.W.Frag} {C : Addr} {T : String} (h : BT T) : PySem.W.notFirst K C (.type T) = true := by
  cases h
  · exact nf_none
  · exact nf_bool
  · exact nf_int
  · exact nf_str
  · exact nf_list
  · exact nf_tuple
theorem OwnI.bt {K : PySem.W.Frag} {C : Addr} {T : String} (h : OwnI K C) (b : BT T) : PySem.W.kitOne K (.type T) (.ref C) = some false := by
  cases b
  · exact h.no (ns := ["NoneType", "object"]) (by decide +kernel)
  · exact h.no (ns := ["bool", "int", "object"]) (by decide +kernel)
  · exact h.no (ns := ["int", "object"]) (by decide +kernel)
  · exact h.no (ns := ["str", "object"]) (by decide +kernel)
  · exact h.no (ns := ["list", "object"]) (by decide +kernel)
  · exact h.no (ns := ["tuple", "object"]) (by decide +kernel)
theorem Sh.bt {K : PySem.W.Frag} {b : Addr} {H : Hp} {v : V} (h : Sh b H v) : ∃ T, TyX K H v (.type T) ∧ BT T := by
  cases v with
  | non => exact ⟨_, .base .non, .non⟩
  | bl x => exact ⟨_, .base (.bl x), .bl⟩
  | int x => exact ⟨_, .base (.int x), .int⟩
  | str x => exact ⟨_, .base (.str x), .str⟩
  | ref a =>
    obtain ⟨ne, ⟨xs, e⟩ | ⟨xs, e⟩⟩ := h
    · exact ⟨_, .base (.lst e), .lst⟩
    · exact ⟨_, .base (.tup e), .tup⟩
  | byt _ => exact h.elim
  | flt _ => exact h.elim
  | ty _ => exact h.elim
/-- whether a value is one of some texts -/
def isOne (ys : List Str) : V → Bool
  | .str x => ys.any (· == x)
  | _ => false
def eqText (v : V) : Value → Bool
  | .str c _ => (match v with
    | .str x => c == x
    | _ => false)
  | _ => false
theorem any_text {v : V} : ∀ {ys : List Str} {us : List Value}, Vals (ys.map V.str) us → us.any (eqText v) = isOne ys v
  | [], _, .nil => by cases v <;> rfl
  | y :: ys, _, .cons r t => by
    obtain ⟨k, rfl⟩ := r
    have ih := any_text (v := v) t
    rw [List.any_cons, ih]
    cases v <;> simp [eqText, isOne]
section
variable {X : Cx} {pins : List (Addr × Obj)} {σ : L2.St} {H : Hp} {s : Shared}
theorem text_eqAt {A : Around} {b : Addr} {v : V} {u : Value} (hu : A.units < cLine) (I : Inv X pins σ H s) (h : Sh b H v) (rv : RelV v u) (y : Str) (t : Tok) : SeqAt.EqAt A s (.str y t) u (eqText v (.str y t)) := by
  cases v with
  | non => cases (show u = Value.none from rv); exact SeqAt.EqAt.str_none y t
  | bl x => cases (show u = Value.bool x from rv); exact SeqAt.EqAt.str_bool y t x
  | int i => obtain ⟨k, rfl⟩ := (show ∃ k, u = Value.int i k from rv); exact SeqAt.EqAt.str_int y t i k
  | str x => obtain ⟨k, rfl⟩ := (show ∃ k, u = Value.str x k from rv); exact SeqAt.EqAt.str_str y t x k
  | ref a =>
    cases (show u = Value.ref a from rv)
    obtain ⟨ne, ⟨xs, e⟩ | ⟨xs, e⟩⟩ := h
    · obtain ⟨its, r, pl, _⟩ := I.list (SqL.of e)
      exact SeqAt.EqAt.str_list y t pl.isList hu
    · obtain ⟨its, r, pl, _⟩ := I.tuple (SqT.of e)
      exact SeqAt.EqAt.str_tuple y t pl hu
  | byt _ => exact h.elim
  | flt _ => exact h.elim
  | ty _ => exact h.elim
/-- x (not) in a tuple of texts -/
def rInSh (K : PySem.W.Frag) (neg : Bool) : R2 := fun x y H Q => ∃ b p ys, y = .ref p ∧ SqT K H p (ys.map V.str) ∧ Sh b H x ∧ Q (.bl (if neg then !isOne ys x else isOne ys x)) H
theorem mem_text {b : Addr} {A : Around} {v : V} {u : Value} (hu : A.units < cLine) (I : Inv X pins σ H s) (h : Sh b H v) (rv : RelV v u) : ∀ {ys : List Str} {us : List Value}, Vals (ys.map V.str) us → ∀ z ∈ us, SeqAt.EqAt A s z u (eqText v z)
  | [], _, .nil, _, hz => by cases hz
  | y :: ys, _, .cons r t, z, hz => by
    obtain ⟨k, rfl⟩ := r
    rcases List.mem_cons.mp hz with e | hz
    · subst e
      exact text_eqAt hu I h rv y k
    · exact mem_text hu I h rv t z hz
theorem op_inSh (hu : X.A.units + 64 < cLine) : OpR X (compareOp .In) (rInSh X.K false) := by
  intro pins s σ H x y v u Q I rx ry h
  obtain ⟨b, p, ys, rfl, hq, hs, q⟩ := h
  cases ry
  obtain ⟨its, rv, pl, _⟩ := I.tuple hq
  have hu1 : X.A.in1.units < cLine := by show X.A.units + 1 < cLine; omega
  refine SeqAt.in_tupleAt (eqText x) pl (fun z hz => mem_text hu1 I hs rx rv z (by simpa using hz)) ⟨.bl _, H, I, rfl, ?_⟩
  rw [show its.toArray.any (eqText x) = its.any (eqText x) by simp, any_text rv]
  exact q
theorem op_notInSh (hu : X.A.units + 64 < cLine) : OpR X (compareOp .NotIn) (rInSh X.K true) := by
  intro pins s σ H x y v u Q I rx ry h
  obtain ⟨b, p, ys, rfl, hq, hs, q⟩ := h
  cases ry
  obtain ⟨its, rv, pl, _⟩ := I.tuple hq
  have hu1 : X.A.in1.units < cLine := by show X.A.units + 1 < cLine; omega
  refine SeqAt.notIn_tupleAt (eqText x) pl (fun z hz => mem_text hu1 I hs rx rv z (by simpa using hz)) ⟨.bl _, H, I, rfl, ?_⟩
  rw [show its.toArray.any (eqText x) = its.any (eqText x) by simp, any_text rv]
  exact q
end
end Rs
/-! raise X() of an own class without an __init__. -/
namespace Rs
open PySem PySem.Spec PyProof.Rows L2
section
variable {X : Cx}
theorem pmk_own0 {C : Addr} {bmB : List Value} {B newId initId : String} {x : Str} {p pos : Pos} (F : ExcBaseFacts B newId initId bmB) (q : PySem.W.excIn X.K C bmB newId = true) (gC : X.mg x = some (.ref C)) (kC : PySem.W.keepIn X.K (.ref C) = true) (r : Raises X (.ref C)) (hg : Gl X x)
    (hdb : (x == ("__debug__" : Str)) = false := by decide) : PMk X (.Call (.Name x p) [] [] pos) (fun _ H Q => Q (.ref C) none H) := by
  intro pins s σ H Q I h
  refine wpAny_Call_Name_kw (ld_glob I hg gC ?_ hdb)
  refine PySem.W.callWith_K0 I.kIn kC ?_
  show wpAny _ _ (call (.ref C) []) _ _ _
  obtain ⟨bm, N, nm, qn, bs, hdct, sn, sub, ab, col, dd, k0, k1, k2, k3, k5, mN, hC, hN, hni, T⟩ := exc_obj I.kIn q
  refine wpAny_call_exc_subT F T hC hN hni (fun h' e hm => ?_) (Nat.zero_le _)
  exact mk_of I hm r h (I.hok.gone hm.new)
end
end Rs
/-! Dicts of ints as sets; comprehensions over anything walked; a bool > an int; values by two levels of shape. -/
namespace Rs
open PySem PySem.Spec PyProof.Rows L2
/-! ### a bool > an int -/
section
variable {prog : Program} {w : World} {A : Around} {E : Value → Shared → Prop} {s : Shared}
theorem gives_gt_bool (c : Bool) (j : Int) (u : Tok) : Gives (Builtin.«int.__gt__» ⟨[.bool c, .int j u], []⟩) (.val (Value.bool (decide (j < (if c = true then (1 : Int) else 0))))) :=
  .of_wp fun M A E s Q h => by
    obtain ⟨hp, g, d, tk, os⟩ := s
    wp_walk
    exact ⟨_, rfl, h⟩
theorem gt_bool_int {c : Bool} {j : Int} {u : Tok} {Q : Value → Shared → Prop} (h : Q (.bool (decide (j < (if c = true then (1 : Int) else 0)))) s) : wpAny (model prog w) A (compareOp .Gt (.bool c) (.int j u)) Q E s := by
  show wpAny _ _ (richCompare .Gt (.bool c) (.int j u)) Q E s
  exact wpAny_richCompare_left (op := .Gt) (Ta := "bool") (Tb := "int") rfl (typeIs_int s j u) (by decide) F.sub_int_bool F.slot_bool_gt
    (call_gives F.slot_bool_gt rfl F.entry_int_gt (F.args_int_gt_2 _ _) (gives_gt_bool c j u) ⟨nofun, h⟩)
end
/-- an int or a bool > an int -/
def gtI (v : V) (j : Int) : Bool := match v with
  | .int i => decide (j < i)
  | .bl c => decide (j < (if c = true then (1 : Int) else 0))
  | _ => false
def rGtI : R2 := fun x y H Q => ∃ j, y = .int j ∧ ((∃ i, x = .int i) ∨ ∃ c, x = .bl c) ∧ Q (.bl (gtI x j)) H
theorem op_gtI {X : Cx} : OpR X (compareOp .Gt) rGtI := by
  intro pins s σ H x y v u Q I rx ry h
  obtain ⟨j, rfl, ⟨i, rfl⟩ | ⟨c, rfl⟩, q⟩ := h
  · exact op_gt pins s σ H _ _ v u Q I rx ry ⟨i, j, rfl, rfl, q⟩
  · obtain ⟨t, rfl⟩ := ry
    cases (show v = Value.bool c from rx)
    exact gt_bool_int ⟨.bl _, H, I, rfl, q⟩
/-! ### y in a dict -/
def rInDict : R2 := fun y x H Q => ∃ a o, x = .ref a ∧ DGet H a y o ∧ Q (.bl o.isSome) H
theorem op_inDict {X : Cx} (hu : X.A.units + 1 < cLine) : OpR X (compareOp .In) rInDict := by
  intro pins s σ H y x v u Q I ry rx h
  obtain ⟨a, o, rfl, g, q⟩ := h
  cases (show u = Value.ref a from rx)
  exact d_in hu I g ry fun s3 I3 => ⟨.bl o.isSome, H, I3, rfl, q⟩
/-- the int keys of a dict are just these -/
def KeysI (kvs : List (Key × V)) (ns : List Int) : Prop := (∀ i : Int, (valV kvs (.inl i)).isSome = decide (i ∈ ns)) ∧ kvs.length ≤ ns.length
theorem KeysI.nil : KeysI [] [] := ⟨fun i => by simp [valV], Nat.le_refl _⟩
theorem KeysI.snoc {kvs : List (Key × V)} {ns : List Int} (h : KeysI kvs ns) (i : Int) (v : V) : KeysI (putK kvs (.inl i) v) (ns ++ [i]) := by
  refine ⟨fun j => ?_, ?_⟩
  · rw [valV_put]
    by_cases e : j = i
    · subst e
      simp
    · have e' : ¬ ((Sum.inl j : Key) = .inl i) := fun q => e (Sum.inl.inj q)
      rw [if_neg e', h.1 j]
      simp [e]
  · have l1 := length_putK kvs (Sum.inl i : Key) v
    have l2 := h.2
    rw [List.length_append]
    show _ ≤ ns.length + 1
    omega
theorem KeysI.get {kvs : List (Key × V)} {ns : List Int} (h : KeysI kvs ns) {H : Hp} {a : Addr} (e : H a = some (.dK kvs)) (i : Int) : ∃ o, DGet H a (.int i) o ∧ o.isSome = decide (i ∈ ns) :=
  ⟨_, DGet.k (k := (.inl i : Key)) e, h.1 i⟩
/-- a dict of ints stands at D -/
def SetI (H : Hp) (D : Addr) (ns : List Int) : Prop := ∃ kvs, H D = some (.dK kvs) ∧ KeysI kvs ns
theorem SetI.get {H : Hp} {D : Addr} {ns : List Int} (h : SetI H D ns) (i : Int) : ∃ o, DGet H D (.int i) o ∧ o.isSome = decide (i ∈ ns) := by
  obtain ⟨kvs, e, k⟩ := h
  exact k.get e i
theorem SetI.same {H H' : Hp} {D : Addr} {ns : List Int} (h : SetI H D ns) (s : Same H H') : SetI H' D ns := by
  obtain ⟨kvs, e, k⟩ := h
  exact ⟨kvs, s _ _ e, k⟩
/-- a dict comprehension over anything walked -/
theorem dc_it {J : It} {n : Nat} {G : Hp → Prop} {Y : Nat → Hp → V → Hp → Prop} (wk : Walk J n G Y) {g : TG} {tt : TT} {tk tv : TE} {vs : List Nat} {σ : L2.St} {H0 : Hp} {D : Addr} {Qe : Hp → Prop} (R : Nat → Hp → Prop) (start : R 0 (upd H0 D (.dK [])))
    (stay : ∀ j H, j ≤ n → R j H → G H)
    (turn : ∀ j x H H', j < n → R j H → Y j H x H' → g x (wipe σ vs) H' fun σ1 H1 => wipe σ1 vs = wipe σ vs ∧ tt σ1 H1 fun c H2 =>
      if c = true then tk σ1 H2 fun y H3 => tv σ1 H3 fun z H4 => ∃ ks k, y = kV k ∧ H4 D = some (.dK ks) ∧ ks.length < sizeLine ∧ R (j + 1) (upd H4 D (.dK (putK ks k z))) else R (j + 1) H2)
    (fin : ∀ H, R n H → Qe H) :
    ∃ W : Nat → Nat → Hp → Prop, (∃ m, W 0 m (upd H0 D (.dK []))) ∧ ∀ j m H, W j m H → (J.stop j H ∧ Qe H) ∨
      (J.go j H ∧ ∃ N : Hp → Prop, (∀ H', N H' → ∃ m', m' < m ∧ W (j + 1) m' H') ∧ ∀ x H', J.yld j H x H' → g x (wipe σ vs) H' fun σ1 H1 => wipe σ1 vs = wipe σ vs ∧ tt σ1 H1 fun c H2 =>
        if c = true then tk σ1 H2 fun y H3 => tv σ1 H3 fun z H4 => ∃ ks k, y = kV k ∧ H4 D = some (.dK ks) ∧ ks.length < sizeLine ∧ N (upd H4 D (.dK (putK ks k z))) else N H2) := by
  refine ⟨fun j m H => m + j = n ∧ R j H, ⟨n, rfl, start⟩, fun j m H hw => ?_⟩
  obtain ⟨em, hR⟩ := hw
  have gH := stay j H (by omega) hR
  cases m with
  | zero =>
    obtain rfl : j = n := by omega
    exact .inl ⟨wk.stops H gH, fin H hR⟩
  | succ m =>
    have lt : j < n := by omega
    refine .inr ⟨wk.goes j H lt gH, R (j + 1), fun H' hN => ⟨m, Nat.lt_succ_self m, by omega, hN⟩, fun x H' hy => ?_⟩
    exact turn j x H H' lt hR (wk.yields j H x H' lt gH hy)
/-! ### more of what stays -/
theorem But.free {b p : Addr} {H H' : Hp} (k : But b H H') (ne : p ≠ b) (h : H' p = none) : H p = none := by
  cases e : H p with
  | none => rfl
  | some o =>
    have := k p o ne e
    rw [h] at this
    cases this
/-- values told by their own shape and that of their things -/
def Tw (b : Addr) (H : Hp) : V → Prop
  | .ref a => a ≠ b ∧ ∃ xs, (H a = some (.lst xs) ∨ H a = some (.tup xs)) ∧ xs.length ≤ 100 ∧ ∀ x ∈ xs, Sh b H x
  | v => Sh b H v
theorem Tw.sh {b : Addr} {H : Hp} {v : V} (h : Tw b H v) : Sh b H v := by
  cases v with
  | ref a =>
    obtain ⟨n, xs, e | e, _⟩ := h
    · exact ⟨n, .inl ⟨xs, e⟩⟩
    · exact ⟨n, .inr ⟨xs, e⟩⟩
  | _ => exact h
theorem Tw.but {b : Addr} {H H' : Hp} {v : V} (h : Tw b H v) (k : But b H H') : Tw b H' v := by
  cases v with
  | ref a =>
    obtain ⟨n, xs, e, l, q⟩ := h
    exact ⟨n, xs, e.imp (k _ _ n) (k _ _ n), l, fun x hx => (q x hx).but k⟩
  | _ => exact h
theorem Tw.set {b t : Addr} {H : Hp} {v : V} {xs ys : List V} (h : Tw b H v) (e : H t = some (.lst xs)) (ne : v ≠ .ref t) : Tw b (upd H t (.lst ys)) v := by
  cases v with
  | ref a =>
    obtain ⟨n, zs, f, l, q⟩ := h
    have na : a ≠ t := fun z => ne (by rw [z])
    exact ⟨n, zs, by rw [upd_ne na]; exact f, l, fun x hx => (q x hx).set e⟩
  | _ => exact h
/-- a value that is no older object -/
def NewV (H : Hp) (v : V) : Prop := ∀ a, v = .ref a → H a = none
theorem NewV.ne {H : Hp} {v : V} {t : Addr} {o : HO} (h : NewV H v) (e : H t = some o) : v ≠ .ref t := fun z => by
  have := h t z
  rw [e] at this
  cases this
theorem NewV.but {b : Addr} {H H' : Hp} {v : V} (h : NewV H' v) (k : But b H H') (s : Sh b H' v) : NewV H v := fun a e => by
  subst e
  exact k.free s.1 (h a rfl)
/-! ### the things of a list or a tuple -/
def seqV (H : Hp) : V → Option (List V)
  | .ref a => match H a with
    | some (.lst xs) => some xs
    | some (.tup xs) => some xs
    | _ => none
  | _ => none
theorem seqV_lst {H : Hp} {a : Addr} {xs : List V} (h : H a = some (.lst xs)) : seqV H (.ref a) = some xs := by
  show (match H a with
    | some (.lst xs) => some xs
    | some (.tup xs) => some xs
    | _ => none) = _
  rw [h]
theorem seqV_tup {H : Hp} {a : Addr} {xs : List V} (h : H a = some (.tup xs)) : seqV H (.ref a) = some xs := by
  show (match H a with
    | some (.lst xs) => some xs
    | some (.tup xs) => some xs
    | _ => none) = _
  rw [h]
theorem seqV_tw {b : Addr} {H H' : Hp} {v : V} (h : Tw b H v) (k : But b H H') : seqV H' v = seqV H v := by
  cases v with
  | ref a =>
    obtain ⟨n, xs, e | e, _⟩ := h
    · rw [seqV_lst e, seqV_lst (k _ _ n e)]
    · rw [seqV_tup e, seqV_tup (k _ _ n e)]
  | _ => rfl
def inB (lo hi : Int) : V → Bool
  | .int i => decide (lo ≤ i) && decide (i < hi)
  | _ => false
/-- whether a value is a sequence of integers between -/
def btw (H : Hp) (lo hi : Int) (v : V) : Bool := match seqV H v with
  | some xs => xs.all (inB lo hi)
  | none => false
theorem btw_seq {H : Hp} {lo hi : Int} {v : V} {xs : List V} (h : seqV H v = some xs) : btw H lo hi v = xs.all (inB lo hi) := by
  unfold btw
  rw [h]
theorem btw_none {H : Hp} {lo hi : Int} {v : V} (h : seqV H v = none) : btw H lo hi v = false := by
  unfold btw
  rw [h]
theorem btw_tw {b : Addr} {H H' : Hp} {v : V} {lo hi : Int} (h : Tw b H v) (k : But b H H') : btw H' lo hi v = btw H lo hi v := by
  unfold btw
  rw [seqV_tw h k]
theorem all_inB {lo hi : Int} : ∀ {xs : List V}, xs.all (inB lo hi) = true → ∃ ns : List Int, xs = ns.map V.int ∧ ∀ n ∈ ns, lo ≤ n ∧ n < hi
  | [], _ => ⟨[], rfl, fun n h => nomatch h⟩
  | x :: xs, h => by
    rw [List.all_cons, Bool.and_eq_true] at h
    obtain ⟨ns, rfl, q⟩ := all_inB h.2
    cases x with
    | int i =>
      have h1 := h.1
      simp only [inB, Bool.and_eq_true, decide_eq_true_eq] at h1
      exact ⟨i :: ns, rfl, fun n hn => by
        rcases List.mem_cons.mp hn with e | e
        · subst e; exact h1
        · exact q n e⟩
    | _ => exact absurd h.1 (by simp [inB])
/-! ### n = {k: v for ..}, n a local name that no inner block keeps -/
theorem sw_dc {kx vx : Expr} {gs : List Comprehension} {sc : Scope} {p q : Pos} {n : Str} {ln : Nat} {ev : Env} (isf : ev.scope.kind = .function) (isl : ev.scope.names.lookup n = some .local) (same : (q.line == p.line) = true)
    (out : (sc.names.any fun (m, k) => m == n && (k == .local || k == .cell)) = false) : swapsWith (.DictComp kx vx gs sc p) (some (.Name n q)) ln ev = pure true := by
  have k1 : ev.kindOf n = some .local := isl
  have k2 : ev.blockKind = .function := by
    unfold Env.blockKind
    rw [isf]
    rfl
  unfold swapsWith
  simp only [k2, k1, out, Expr.pos, same]
  rfl
theorem ps_setDc {X : Cx} {i : Nat} {n : Str} {q : Pos} {kx vx tg it : Expr} {ifs : List Expr} {sc : Scope} {own : List (Str × Nat)} {p sp : Pos} {wi : TI} {g : TG} {tt : TT} {tk tv : TE} (calm : X.calm = true) (nd : X.N.Nodup) (hn : X.N[i]? = some n) (isl : X.env.scope.names.lookup n = some .local)
    (sw : swapsWith (.DictComp kx vx [⟨tg, it, ifs, 0⟩] sc p) (some (.Name n q)) sp.line X.env = pure true) (hi : PI X tg it wi) (ok : BlkOk X.N X.env.scope sc own)
    (r1 : ∀ (u : Shared) (H : Hp) (C : Addr) (cl : List (Str × Addr)) (fp : List Addr), PG (X.blk u H sc (compEnvC sc cl C X.env) fp) tg g) (r2 : ∀ (u : Shared) (H : Hp) (C : Addr) (cl : List (Str × Addr)) (fp : List Addr), PTs (X.blk u H sc (compEnvC sc cl C X.env) fp) ifs tt)
    (r3 : ∀ (u : Shared) (H : Hp) (C : Addr) (cl : List (Str × Addr)) (fp : List Addr), PE (X.blk u H sc (compEnvC sc cl C X.env) fp) kx tk) (r4 : ∀ (u : Shared) (H : Hp) (C : Addr) (cl : List (Str × Addr)) (fp : List Addr), PE (X.blk u H sc (compEnvC sc cl C X.env) fp) vx tv)
    (plain : ∀ x, foldedSetIterable it X.env x = pure x := by intro _; rfl) : PS X (.Assign [.Name n q] (.DictComp kx vx [⟨tg, it, ifs, 0⟩] sc p) sp) (tAsg (tDc wi g tt tk tv (own.map (·.2))) (gName i)) := by
  refine ⟨fun pins s σ H D I wish => ?_⟩
  have wish : tDc wi g tt tk tv (own.map (·.2)) σ H (fun x H1 => gName i x σ H1 D.nx) := wish
  rw [exec_Assign_Name_used _ _ _ _ sw]
  refine wpAny_bind (wpAny_standAt (wpAny_bind ?_))
  show wpAny _ X.A (do let _ ← comprehension (.DictComp kx vx [⟨tg, it, ifs, 0⟩] sc p) sc X.env (firstIterPos [⟨tg, it, ifs, 0⟩] p) newDict false (eval it X.env) (some (assign (.Name n q) X.env))) _ _ s
  refine wpAny_bind (thn (dc_core (Qf := fun _ s' => SP X pins D .next s') calm nd I hi ok r1 r2 r3 r4 plain wish fun L C s1 ns H1 I1 got hns fr => ?_) fun _ s1 z => wpAny_pure (wpAny_pure z))
  show wpAny _ _ (assign (.Name n q) X.env (.ref L)) _ _ _
  refine wpAny_assign_Name (store_ok2 (v := V.ref L) I1 nd hn (.inl isl) rfl (fun s2 I2 ⟨c, keep, way⟩ => ?_) (.inr isl))
  obtain ⟨e0, e1, e2, e3, e4, e5⟩ := fr
  have far : C ≠ c := by
    rcases way with z | z
    · rw [z]
      exact e1
    · exact fun e => e4 n c z e.symm
  refine ⟨ns, hns.sameBut keep far, fun h3 keep3 => ?_⟩
  exact ⟨_, H1, I2.turned (t' := s2.toks) (fun b o hb e => (keep3.2 b hb).trans e) e0 e1 e3 e4 e5, got⟩
/-- a list or a tuple, walked -/
def iSeqA (K : PySem.W.Frag) (tl : TE) : TI := fun σ H R => tl σ H fun v H1 => ∃ a, v = .ref a ∧ ((∃ xs, SqL K H1 a xs ∧ R (Itl K a) H1) ∨ (∃ xs, SqT K H1 a xs ∧ R (Itt K a) H1))
theorem pi_seqA {X : Cx} {tg l : Expr} {tl : TE} (hl : PE X l tl) : PI X tg l (iSeqA X.K tl) := by
  refine ⟨fun pins s σ H R I h => thn (hl.run pins s σ H _ I h) fun v u res => ?_⟩
  obtain ⟨x, G, J, rx, a, ex, way⟩ := res
  subst ex
  cases rx
  have new : ∀ c ∈ [u.heap.objs.size], FpOk X pins G c := fun c hc => by
    obtain rfl : c = u.heap.objs.size := by simpa using hc
    exact J.fpOk (Nat.le_refl _) (J.hok.fresh (Nat.le_refl _))
  rcases way with ⟨xs, hq, q⟩ | ⟨xs, hq, q⟩
  · obtain ⟨its, rv, p, _⟩ := J.list hq
    refine wpAny_pyIter_list p.isList ⟨u.heap.objs.size, [u.heap.objs.size], _, _, G, rfl, ?_, turn_list a _, ⟨_, Heap.get?_push_size _ rfl, rfl, rfl⟩, new, q⟩
    exact J.kept (t' := u.toks) fun c r z => Heap.get?_push_of_some _ z
  · obtain ⟨its, rv, p, _⟩ := J.tuple hq
    refine wpAny_pyIter_tuple (show u.heap.IsTuple a its.toArray from p) ⟨u.heap.objs.size, [u.heap.objs.size], _, _, G, rfl, ?_, turn_tuple a _, ⟨_, Heap.get?_push_size _ rfl, rfl, rfl⟩, new, q⟩
    exact J.kept (t' := u.toks) fun c r z => Heap.get?_push_of_some _ z
/-- a list or a tuple of ints -/
def SeqI (K : PySem.W.Frag) (H : Hp) (a : Addr) (ns : List Int) : Prop := SqL K H a (ns.map V.int) ∨ SqT K H a (ns.map V.int)
theorem SeqI.same {K : PySem.W.Frag} {H H' : Hp} {a : Addr} {ns : List Int} (h : SeqI K H a ns) (s : Same H H') : SeqI K H' a ns := h.imp (s.seq ·) (fun h => (Fz.of_same s).sqT h)
theorem take_int {ns : List Int} {i : Nat} {x : V} (h : (ns.map V.int)[i]? = some x) : ∃ n, x = .int n ∧ ns.take (i + 1) = ns.take i ++ [n] := by
  obtain ⟨n, hn, rfl⟩ := map_int_get h
  exact ⟨n, rfl, take_snoc hn⟩
/-- {n: True for n in a} -/
theorem dset {K : PySem.W.Frag} {a : Addr} {ns : List Int} {te : TE} {sl : Nat} {σ : L2.St} {H : Hp} {Q : VK} (hte : ∀ R : VK, R (.ref a) H → te σ H R) (hl : sl < σ.length) (hS : SeqI K H a ns) (hn : ns.length ≤ 1000)
    (k : ∀ D H', H D = none → Same H H' → SetI H' D ns → Q (.ref D) H') : tDc (iSeqA K te) (gName sl) tYes (tVar sl) (tC (.bl true)) [sl] σ H Q := by
  have turn : ∀ (D : Addr), H D = none → ∀ j x Hc H', j < (ns.map V.int).length → (SetI Hc D (ns.take j) ∧ Same H Hc) → YAt (ns.map V.int) j Hc x H' → gName sl x (wipe σ [sl]) H' fun σ1 H1 => wipe σ1 [sl] = wipe σ [sl] ∧ tYes σ1 H1 fun c H2 =>
      if c = true then tVar sl σ1 H2 fun y H3 => tC (.bl true) σ1 H3 fun z H4 => ∃ ks k, y = kV k ∧ H4 D = some (.dK ks) ∧ ks.length < sizeLine ∧ (SetI (upd H4 D (.dK (putK ks k z))) D (ns.take (j + 1)) ∧ Same H (upd H4 D (.dK (putK ks k z)))) else (SetI H2 D (ns.take (j + 1)) ∧ Same H H2) := by
    intro D hD j x Hc H' hj hR hy
    obtain ⟨rfl, hx⟩ := hy
    obtain ⟨n, rfl, tk⟩ := take_int hx
    obtain ⟨⟨kvs, hk, kk⟩, sc⟩ := hR
    refine ⟨by simp [wipe, List.set_set], ?_⟩
    dsimp only [tYes]
    rw [if_pos rfl]
    refine ⟨.int n, by simp [wipe, List.getElem?_set, hl], kvs, .inl n, rfl, hk, ?_, ?_, ?_⟩
    · have := kk.2
      rw [List.length_take] at this
      exact szl (by omega)
    · rw [tk]
      exact ⟨_, upd_same, kk.snoc n _⟩
    · exact same_lst sc hD
  refine hte _ ⟨a, rfl, ?_⟩
  rcases hS with hS | hS
  · refine .inl ⟨_, hS, fun D hD => dc_it walk_list (fun i Hc => SetI Hc D (ns.take i) ∧ Same H Hc) ⟨⟨[], upd_same, KeysI.nil⟩, same_new hD⟩ (fun i Hc _ hR => hR.2.seq hS) (turn D hD) (fun Hc hR => ?_)⟩
    rw [List.length_map, List.take_length] at hR
    exact k D Hc hD hR.2 hR.1
  · refine .inr ⟨_, hS, fun D hD => dc_it walk_tup (fun i Hc => SetI Hc D (ns.take i) ∧ Same H Hc) ⟨⟨[], upd_same, KeysI.nil⟩, same_new hD⟩ (fun i Hc _ hR => (Fz.of_same hR.2).sqT hS) (turn D hD) (fun Hc hR => ?_)⟩
    rw [List.length_map, List.take_length] at hR
    exact k D Hc hD hR.2 hR.1
theorem asg_go {te : TE} {g : V → L2.St → Hp → (L2.St → Hp → Prop) → Prop} {rest : TS} {D : Ends} {σ : L2.St} {H : Hp} (h : te σ H (fun x H1 => g x σ H1 (fun σ2 H2 => rest D σ2 H2))) : tSeq (tAsg te g) rest D σ H := h
/-- [e for n in a], the e of a bool each, nothing written -/
theorem lmap {K : PySem.W.Frag} {a : Addr} {ns : List Int} {te el : TE} {sl : Nat} {σ : L2.St} {H : Hp} {Q : VK} (f : Int → Bool) (hte : ∀ R : VK, R (.ref a) H → te σ H R) (hS : SeqI K H a ns) (hn : ns.length ≤ 1000)
    (helt : ∀ n Hc (R : VK), n ∈ ns → Same H Hc → R (.bl (f n)) Hc → el ((wipe σ [sl]).set sl (some (.int n))) Hc R)
    (k : ∀ D H', H D = none → Same H H' → H' D = some (.lst ((ns.map f).map V.bl)) → Q (.ref D) H') : tLc (iSeqA K te) (gName sl) tYes el [sl] σ H Q := by
  have turn : ∀ (D : Addr), H D = none → ∀ j x Hc H', j < (ns.map V.int).length → (Hc D = some (.lst (((ns.take j).map f).map V.bl)) ∧ Same H Hc) → YAt (ns.map V.int) j Hc x H' → gName sl x (wipe σ [sl]) H' fun σ1 H1 => wipe σ1 [sl] = wipe σ [sl] ∧ tYes σ1 H1 fun c H2 =>
      if c = true then el σ1 H2 fun y H3 => ∃ acc, H3 D = some (.lst acc) ∧ acc.length < sizeLine ∧ (upd H3 D (.lst (acc ++ [y])) D = some (.lst (((ns.take (j + 1)).map f).map V.bl)) ∧ Same H (upd H3 D (.lst (acc ++ [y])))) else (H2 D = some (.lst (((ns.take (j + 1)).map f).map V.bl)) ∧ Same H H2) := by
    intro D hD j x Hc H' hj hR hy
    obtain ⟨rfl, hx⟩ := hy
    obtain ⟨n, rfl, tk⟩ := take_int hx
    obtain ⟨hk, sc⟩ := hR
    refine ⟨by simp [wipe, List.set_set], ?_⟩
    dsimp only [tYes]
    rw [if_pos rfl]
    refine helt n _ _ (List.mem_of_mem_take (i := j + 1) (by rw [tk]; simp)) sc ⟨_, hk, ?_, ?_, ?_⟩
    · rw [List.length_map, List.length_map, List.length_take]
      exact szl (by omega)
    · rw [tk, upd_same, List.map_append, List.map_append]
      rfl
    · exact same_lst sc hD
  refine hte _ ⟨a, rfl, ?_⟩
  rcases hS with hS | hS
  · refine .inl ⟨_, hS, fun D hD => lc_it walk_list (fun i Hc => Hc D = some (.lst (((ns.take i).map f).map V.bl)) ∧ Same H Hc) ⟨upd_same, same_new hD⟩ (fun i Hc _ hR => hR.2.seq hS) (turn D hD) (fun Hc hR => ?_)⟩
    rw [List.length_map, List.take_length] at hR
    exact k D Hc hD hR.2 hR.1
  · refine .inr ⟨_, hS, fun D hD => lc_it walk_tup (fun i Hc => Hc D = some (.lst (((ns.take i).map f).map V.bl)) ∧ Same H Hc) ⟨upd_same, same_new hD⟩ (fun i Hc _ hR => (Fz.of_same hR.2).sqT hS) (turn D hD) (fun Hc hR => ?_)⟩
    rw [List.length_map, List.take_length] at hR
    exact k D Hc hD hR.2 hR.1
theorem b_go {r : List V → Hp → VK → Prop} {te : TE} {σ : L2.St} {H : Hp} {Q : Bool → Hp → Prop} (h : te σ H (fun x H1 => r [x] H1 (fun z H2 => ∃ c, z = .bl c ∧ Q c H2))) : tB (tCB r (tCons te tNil)) σ H Q := h
theorem all_id {ns : List Int} {f : Int → Bool} : (ns.map f).all id = ns.all f := by simp [List.all_map]
/-- a list == [] -/
def rEqNil (K : PySem.W.Frag) : R2 := fun x y H Q => ∃ l b xs, x = .ref l ∧ y = .ref b ∧ SqL K H l xs ∧ SqL K H b [] ∧ Q (.bl xs.isEmpty) H
theorem op_eqNil {X : Cx} (hu : X.A.units + 1 < cLine) : OpR X (compareOp .Eq) (rEqNil X.K) := by
  intro pins s σ H x y v u Q I rx ry h
  obtain ⟨l, b, xs, rfl, rfl, h1, h2, q⟩ := h
  cases (show v = Value.ref l from rx)
  cases (show u = Value.ref b from ry)
  obtain ⟨its, rv, p1, _⟩ := I.list h1
  obtain ⟨its2, rv2, p2, _⟩ := I.list h2
  cases rv2
  have hu0 : X.A.units < cLine := by omega
  show wpAny _ _ (richCompare .Eq (.ref l) (.ref b)) _ _ _
  cases rv with
  | nil => exact SeqAt.RcAt.lists (e := fun _ => true) p1.isList p2.isList rfl hu0 (fun j h1 h2 => absurd h1 (by simp)) _ _ _ _ ⟨.bl _, H, I, rfl, q⟩
  | cons r t => exact SeqAt.RcAt.lists_lengths p1.isList p2.isList (by simp) hu0 _ _ _ _ ⟨.bl _, H, I, rfl, q⟩
/-- [a draw for _ in range(a draw)] -/
theorem ldraw {b : Addr} {targ : TA} {el : TE} {sl : Nat} {σ : L2.St} {H : Hp} {Q : VK} {lo hi : Int} (harg : ∀ R : List V → Hp → Prop, (∀ m H1, 0 ≤ m → m ≤ 100 → Box H1 b → But b H H1 → R [.int m] H1) → targ σ H R)
    (helt : ∀ x Hc (R : VK), Box Hc b → (∀ n H1, lo ≤ n → n < hi → Box H1 b → But b Hc H1 → R (.int n) H1) → el ((wipe σ [sl]).set sl (some x)) Hc R)
    (k : ∀ D (ns : List Int) H', H D = none → D ≠ b → H' D = some (.lst (ns.map V.int)) → ns.length ≤ 100 → (∀ n ∈ ns, lo ≤ n ∧ n < hi) → Box H' b → But b H H' → Q (.ref D) H') : tLc (iRng1 targ) (gName sl) tYes el [sl] σ H Q := by
  refine harg _ fun m H1 m0 m1 B1 k1 => ⟨m, rfl, by omega, by omega, fun D hD => ?_⟩
  have neD : D ≠ b := B1.ne_none hD
  refine lc_range (fun i Hc => ∃ ns : List Int, Hc D = some (.lst (ns.map V.int)) ∧ ns.length = i ∧ (∀ n ∈ ns, lo ≤ n ∧ n < hi) ∧ Box Hc b ∧ But b H1 Hc) ⟨[], upd_same, rfl, (fun n h => nomatch h), B1.same (same_new hD), But.of_same (same_new hD)⟩ (fun i Hc hi hP => ?_) (fun Hc hP => ?_)
  · obtain ⟨ns, hDc, hl, hns, Bc, kc⟩ := hP
    refine ⟨by simp [wipe, List.set_set], ?_⟩
    dsimp only [tYes]
    rw [if_pos rfl]
    refine helt _ _ _ Bc fun n H2 n0 n1 B2 k2 => ⟨_, k2 _ _ neD hDc, ?_, ns ++ [n], ?_, ?_, ?_, box_ne B2 neD, but_new (kc.trans k2) hD⟩
    · rw [List.length_map]
      exact szl (by omega)
    · rw [upd_same, List.map_append]
      rfl
    · rw [List.length_append, hl]
      rfl
    · intro x hx
      rcases List.mem_append.mp hx with h | h
      · exact hns x h
      · rw [List.mem_singleton] at h
        subst h
        exact ⟨n0, n1⟩
  · obtain ⟨ns, hDc, hl, hns, Bc, kc⟩ := hP
    exact k D ns Hc (k1.free neD hD) neD hDc (by omega) hns Bc (k1.trans kc)
theorem if_go {tt : TT} {ta tb : TE} {σ : L2.St} {H : Hp} {Q : VK} (h : tt σ H fun c H1 => if c = true then ta σ H1 Q else tb σ H1 Q) : tIf tt ta tb σ H Q := h
theorem cb_go {r : List V → Hp → VK → Prop} {te : TE} {σ : L2.St} {H : Hp} {Q : VK} (h : te σ H (fun x H1 => r [x] H1 Q)) : tCB r (tCons te tNil) σ H Q := h
end Rs
/-! v in o, v not in o by an own __contains__; what is_whole says of anything. -/
namespace Rs
open PySem PySem.Spec PyProof.Rows L2
section
variable {X : Cx} {CX : CXT} {C g : Addr} {n : Nat} {sp : Sp} {E : XK}
def rInM (C : Addr) (neg : Bool) (sp : Sp) (E : XK) : R2 := fun v y H Q => ∃ a dx fs, y = .ref a ∧ H a = some (.ins C dx fs) ∧ sp [.ref a, v] H (fun z H' => ∃ r, z = .bl r ∧ Q (.bl (if neg then !r else r)) H') E
theorem op_inM (M : Meth X.K C "__contains__" g) (F : FnR X.prog X.w X.K X.mg X.base CX n g sp) (hr : Room n X.A) (hx : Passes CX X E) : OpR X (compareOp .In) (rInM C false sp E) := by
  intro pins s σ H x y v u Q I rx ry h
  obtain ⟨a, dx, fs, rfl, ha, q⟩ := h
  cases (show u = Value.ref a from ry)
  obtain ⟨ox, od, J⟩ := ins_at I ha
  obtain ⟨m, hF⟩ := I.fr
  refine PySem.W.in_K hF I.ok.mod.kin J M.at_ M.fn ?_
  refine wpAny_mono (wpAny_call (run_fnR (us := [.ref a, v]) (vs := [.ref a, x]) F hr hx I (.cons rfl (.cons rx .nil)) q)) (fun w s' z => ?_) fun _ _ x => x
  obtain ⟨z', H', I', rz, r, ez, qz⟩ := z
  subst ez
  cases (show w = Value.bool r from rz)
  exact wpAny_truthy_bool ⟨.bl r, H', I', rfl, qz⟩
theorem op_notInM (M : Meth X.K C "__contains__" g) (F : FnR X.prog X.w X.K X.mg X.base CX n g sp) (hr : Room n X.A) (hx : Passes CX X E) : OpR X (compareOp .NotIn) (rInM C true sp E) := by
  intro pins s σ H x y v u Q I rx ry h
  obtain ⟨a, dx, fs, rfl, ha, q⟩ := h
  cases (show u = Value.ref a from ry)
  obtain ⟨ox, od, J⟩ := ins_at I ha
  obtain ⟨m, hF⟩ := I.fr
  refine PySem.W.notIn_K hF I.ok.mod.kin J M.at_ M.fn ?_
  refine wpAny_mono (wpAny_call (run_fnR (us := [.ref a, v]) (vs := [.ref a, x]) F hr hx I (.cons rfl (.cons rx .nil)) q)) (fun w s' z => ?_) fun _ _ x => x
  obtain ⟨z', H', I', rz, r, ez, qz⟩ := z
  subst ez
  cases (show w = Value.bool r from rz)
  exact wpAny_truthy_bool ⟨.bl (!r), H', I', rfl, qz⟩
end
theorem inV_int {n : Int} {ns : List Int} : inV (.int n) (ns.map V.int) = decide (n ∈ ns) := by
  induction ns with
  | nil => rfl
  | cons m ns ih =>
    unfold inV at ih ⊢
    rw [List.map_cons, List.any_cons, ih]
    show ((m == n) || decide (n ∈ ns)) = decide (n ∈ m :: ns)
    by_cases h : m = n
    · subst h
      simp
    · have h' : ¬ n = m := fun e => h e.symm
      simp [h, h']
theorem flat_ints {ns : List Int} : (ns.map V.int).all flatV = true := by
  induction ns with
  | nil => rfl
  | cons m ns ih =>
    rw [List.map_cons, List.all_cons, ih]
    rfl
/-- what is_whole says of a value: the integer that it is, if it is one -/
def IsV (K : PySem.W.Frag) (H : Hp) (v : V) (o : Option Int) : Prop := ∃ t r, TyX K H v t ∧ PySem.W.kitOne K t (.type "int") = some r ∧ (r = false → o = none) ∧
  (r = true → ∃ c, PySem.W.kitOne K t (.type "bool") = some c ∧ (c = true → o = none) ∧ (c = false → ∃ i, v = .int i ∧ o = some i))
def wholeV : V → Option Int
  | .int i => some i
  | _ => none
theorem Sh.isV {K : PySem.W.Frag} {b : Addr} {H : Hp} {v : V} (h : Sh b H v) : IsV K H v (wholeV v) := by
  obtain ⟨t, ty, ki, kb⟩ := h.ty (K := K)
  refine ⟨_, _, ty, kit_ty ki, fun e => ?_, fun e => ⟨_, kit_ty kb, fun e2 => ?_, fun e2 => ?_⟩⟩
  · cases v <;> first | rfl | exact absurd e (by simp [isInt])
  · cases v <;> first | rfl | exact absurd e2 (by simp [isBl])
  · cases v with
    | int i => exact ⟨i, rfl, rfl⟩
    | bl c => exact absurd e2 (by simp [isBl])
    | _ => exact absurd e (by simp [isInt, isBl])
theorem kit_own_int {K : PySem.W.Frag} {C : Addr} (N : OwnN K C) : PySem.W.kitOne K (.ref C) (.type "int") = some false := by
  have hm : PySem.W.kitMeta "int" = true := by decide +kernel
  have hs : PySem.W.subIn K (.ref C) (.type "int") = some false := N.it
  unfold PySem.W.kitOne PySem.W.kitCls
  simp [hm, hs]
theorem isV_own {K : PySem.W.Frag} {C x dx : Addr} {fs : List (Str × V)} {H : Hp} (I : OwnI K C) (c : Cls K C) (N : OwnN K C) (h : H x = some (.ins C dx fs)) : IsV K H (.ref x) none :=
  ⟨_, false, I.ty c h, kit_own_int N, fun _ => rfl, fun e => nomatch e⟩
end Rs
/-! ~o, o & p and the like by own methods; what stays of written and unwritten lists when one instance changes. -/
namespace Rs
open PySem PySem.Spec PyProof.Rows L2
section
variable {X : Cx} {CX : CXT} {C g : Addr} {n : Nat} {sp : Sp} {E : XK}
def rUnM (C : Addr) (sp : Sp) (E : XK) : V → Hp → VK → Prop := fun x H Q => ∃ a dx fs, x = .ref a ∧ H a = some (.ins C dx fs) ∧ sp [.ref a] H Q E
theorem un_invM (M : Meth X.K C "__invert__" g) (F : FnR X.prog X.w X.K X.mg X.base CX n g sp) (hr : Room n X.A) (hx : Passes CX X E) : UnR X (unaryOp .Invert) (rUnM C sp E) := by
  intro pins s σ H x v Q I rx h
  obtain ⟨a, dx, fs, rfl, ha, q⟩ := h
  cases (show v = Value.ref a from rx)
  obtain ⟨ox, od, J⟩ := ins_at I ha
  obtain ⟨m, hF⟩ := I.fr
  exact PySem.W.ksp_inv hF I.ok.mod.kin J M.at_ M.fn (wpAny_call (run_fnR (us := [.ref a]) (vs := [.ref a]) F hr hx I (.cons rfl .nil) q))
end
/-- a list that an instance's change leaves -/
theorem SeqI.but {K : PySem.W.Frag} {H F : Hp} {a x C dx : Addr} {gs : List (Str × V)} {ns : List Int} (h : SeqI K H a ns) (hx : H x = some (.ins C dx gs)) (k : But x H F) : SeqI K F a ns := by
  have ne : ∀ o, H a = some o → (∀ C dx gs, o ≠ .ins C dx gs) → a ≠ x := fun o e no z => by
    subst z
    rw [hx] at e
    injection e with e
    exact no _ _ _ e.symm
  rcases h with h | h
  · rcases h with (h | ⟨o, h⟩) | h
    · exact .inl (.inl (.inl (k _ _ (ne _ h (fun _ _ _ e => nomatch e)) h)))
    · exact .inl (.inl (.inr ⟨o, k _ _ (ne _ h (fun _ _ _ e => nomatch e)) h⟩))
    · exact .inl (.inr h)
  · rcases h with (h | ⟨o, h⟩) | h
    · exact .inr (.inl (.inl (k _ _ (ne _ h (fun _ _ _ e => nomatch e)) h)))
    · exact .inr (.inl (.inr ⟨o, k _ _ (ne _ h (fun _ _ _ e => nomatch e)) h⟩))
    · exact .inr (.inr h)
theorem sqL_ty {K : PySem.W.Frag} {H : Hp} {a : Addr} {xs : List V} (h : SqL K H a xs) : (∃ t, TyX K H (.ref a) t ∧ (t = .type "list")) ∨ ∃ o, H a = some (.frz o (.lst xs)) := by
  rcases h with (h | ⟨o, h⟩) | ⟨o, its, n, h1, h2, _⟩
  · exact .inl ⟨_, .base (.lst h), rfl⟩
  · exact .inr ⟨o, h⟩
  · exact .inl ⟨_, .kList h1 h2, rfl⟩
/-- e.f within a comprehension -/
theorem pe_fldK {X : Cx} {K : PySem.W.Frag} {ex : Expr} {f : Str} {pos : Pos} {ta : TE} (e : X.K = K) (he : PE X ex ta) (hb : attributeBase ex f X.env (eval ex X.env) = eval ex X.env) : PE X (.Attribute ex f pos) (tFld K ta f) := by
  subst e
  exact pe_fld he hb
theorem szL2 {n : Nat} (h : n ≤ 100000) : n < sizeLine := Nat.lt_of_le_of_lt h (by rw [sizeLine_eq]; decide)
theorem ix_listK {X : Cx} {K : PySem.W.Frag} (e : X.K = K) : IxR X (rIxL K) := by
  subst e
  exact ix_list
theorem ix_tupK {X : Cx} {K : PySem.W.Frag} (e : X.K = K) : IxR X (rIxT K) := by
  subst e
  exact ix_tup
/-- return f(e, ..): the first argument first -/
theorem retc_go {sp : Sp} {ds : List V} {E : XK} {te : TE} {ta : TA} {D : Ends} {σ : L2.St} {H : Hp} (h : te σ H (fun x H1 => ta σ H1 fun xs H2 => sp ((x :: xs) ++ ds) H2 D.rt E)) : tRet (tCall sp ds E (tCons te ta)) D σ H := h
theorem ret_go {te : TE} {D : Ends} {σ : L2.St} {H : Hp} (h : te σ H D.rt) : tRet te D σ H := h
/-- [n for n in a if f n] over a tuple of ints -/
theorem lfilt {K : PySem.W.Frag} {a : Addr} {ns : List Int} {te : TE} {tt : TT} {sl : Nat} {σ : L2.St} {H : Hp} {Q : VK} (f : Int → Bool) (hte : ∀ R : VK, R (.ref a) H → te σ H R) (hS : SqT K H a (ns.map V.int)) (hl : sl < σ.length) (ln : ns.length ≤ 3000)
    (htt : ∀ n Hc (R : Bool → Hp → Prop), Same H Hc → R (f n) Hc → tt ((wipe σ [sl]).set sl (some (.int n))) Hc R)
    (k : ∀ D H', H D = none → Same H H' → H' D = some (.lst ((ns.filter f).map V.int)) → Q (.ref D) H') : tLc (iTup K te) (gName sl) tt (tVar sl) [sl] σ H Q := by
  refine hte _ ⟨a, rfl, ⟨_, hS⟩, fun D hD => lc_it walk_tup (fun i Hc => Hc D = some (.lst (((ns.take i).filter f).map V.int)) ∧ Same H Hc) ⟨upd_same, same_new hD⟩ (fun i Hc _ hR => (Fz.of_same hR.2).sqT hS) (fun j x Hc H' hj hR hy => ?_) (fun Hc hR => ?_)⟩
  · obtain ⟨rfl, hx⟩ := hy
    obtain ⟨n, rfl, tk⟩ := take_int hx
    obtain ⟨hDc, sc⟩ := hR
    refine ⟨by simp [wipe, List.set_set], htt n _ _ sc ?_⟩
    refine ifB (fun g => ?_) (fun g => ?_)
    · refine ⟨.int n, by simp [wipe, List.getElem?_set, hl], _, hDc, ?_, ?_, same_lst sc hD⟩
      · rw [List.length_map]
        have := List.length_filter_le f (ns.take j)
        rw [List.length_take] at this
        exact szL2 (by omega)
      · rw [upd_same, tk, List.filter_append, List.filter_cons, g, List.map_append]
        rfl
    · refine ⟨?_, sc⟩
      rw [tk, List.filter_append, List.filter_cons, g]
      simpa using hDc
  · rw [List.length_map, List.take_length] at hR
    exact k D Hc hD hR.2 hR.1
theorem at_head {y : Int} {t : List Int} : atI ((y :: t).map V.int) 0 = some (.int y) := atI_ok (by decide) rfl rfl
theorem op_in_seqK {X : Cx} {K : PySem.W.Frag} (e : X.K = K) : OpR X (compareOp .In) (rIn K false) := by
  subst e
  exact op_in_seq
/-- [n for n in range(lo, hi) if f n] -/
theorem lcond {targ : TA} {tt : TT} {sl : Nat} {σ : L2.St} {H : Hp} {Q : VK} {lo hi : Int} (f : Int → Bool) (b1 : -1000 ≤ lo) (b2 : lo ≤ 3000) (b3 : -1000 ≤ hi) (b4 : hi ≤ 3000) (harg : ∀ R : List V → Hp → Prop, R [.int lo, .int hi] H → targ σ H R) (hl : sl < σ.length)
    (htt : ∀ n Hc (R : Bool → Hp → Prop), lo ≤ n → n < hi → Same H Hc → R (f n) Hc → tt ((wipe σ [sl]).set sl (some (.int n))) Hc R)
    (k : ∀ D H', H D = none → Same H H' → H' D = some (.lst ((((List.range (hi - lo).toNat).map fun i : Nat => lo + (i : Int)).filter f).map V.int)) → Q (.ref D) H') : tLc (iRng2 targ) (gName sl) tt (tVar sl) [sl] σ H Q := by
  refine harg _ ⟨lo, hi, rfl, by omega, fun D hD => ?_⟩
  refine lc_range (fun i Hc => Hc D = some (.lst ((((List.range i).map fun i : Nat => lo + (i : Int)).filter f).map V.int)) ∧ Same H Hc) ⟨upd_same, same_new hD⟩ (fun i Hc hi' hP => ?_) (fun Hc hP => k D Hc hD hP.2 hP.1)
  obtain ⟨hDc, sc⟩ := hP
  refine ⟨by simp [wipe, List.set_set], htt _ _ _ (by omega) (by omega) sc ?_⟩
  have z : ((List.range (i + 1)).map fun i : Nat => lo + (i : Int)).filter f = ((List.range i).map fun i : Nat => lo + (i : Int)).filter f ++ (if f (lo + (i : Int)) = true then [lo + (i : Int)] else []) := by
    rw [range_succ_map, List.filter_append, List.filter_cons, List.filter_nil]
  refine ifB (fun g => ?_) (fun g => ?_)
  · rw [if_pos g] at z
    refine ⟨.int (lo + (i : Nat)), by simp [wipe, List.getElem?_set, hl], _, hDc, ?_, ?_, same_lst sc hD⟩
    · rw [List.length_map]
      have := List.length_filter_le f ((List.range i).map fun i : Nat => lo + (i : Int))
      rw [List.length_map, List.length_range] at this
      exact szL2 (by omega)
    · rw [upd_same, z, List.map_append]
      rfl
  · rw [if_neg (by rw [g]; exact Bool.false_ne_true), List.append_nil] at z
    rw [z]
    exact ⟨hDc, sc⟩
section
variable {σ : L2.St} {H : Hp}
theorem tst_go {r : R2} {ta tb : TE} {Q : Bool → Hp → Prop} (h : ta σ H fun x H1 => tb σ H1 fun y H2 => r x y H2 fun z H3 => ∃ k, z = .bl k ∧ Q k H3) : tTest (tOp r ta tb) σ H Q := h
theorem or_go {t u : TT} {Q : Bool → Hp → Prop} (h : t σ H fun c H1 => if c = true then Q true H1 else u σ H1 Q) : tOr t u σ H Q := h
theorem prop_go {C : Addr} {sp : Sp} {E : XK} {ta : TE} {Q : VK} (h : ta σ H fun x H1 => ∃ a dx fs, x = .ref a ∧ H1 a = some (.ins C dx fs) ∧ sp [.ref a] H1 Q E) : tProp C sp [] E ta σ H Q := h
theorem opl_go {r : R2} {ta tb : TE} {Q : VK} (h : ta σ H fun x H1 => tb σ H1 fun y H2 => r x y H2 Q) : tOp r ta tb σ H Q := h
theorem un_go {r : V → Hp → VK → Prop} {ta : TE} {Q : VK} (h : ta σ H fun x H1 => r x H1 Q) : tUn r ta σ H Q := h
theorem seqif_go {c : TT} {t u rest : TS} {D : Ends} (h : c σ H fun b H1 => if b = true then t { D with nx := fun σ2 H2 => rest D σ2 H2 } σ H1 else u { D with nx := fun σ2 H2 => rest D σ2 H2 } σ H1) : tSeq (tIfS c t u) rest D σ H := h
end
end Rs
/-! o & p, o <= p and the like by own methods, both of one class. -/
namespace Rs
open PySem PySem.Spec PyProof.Rows L2
section
variable {X : Cx} {CX : CXT} {C g : Addr} {n : Nat} {sp : Sp} {E : XK}
/-- x op y by the class's own method, both instances of the class at C; the answer is not NotImplemented: no value here is -/
def rBinM (C : Addr) (sp : Sp) (E : XK) : R2 := fun x y H Q => ∃ a dx fs b dy gs, x = .ref a ∧ y = .ref b ∧ H a = some (.ins C dx fs) ∧ H b = some (.ins C dy gs) ∧ sp [x, y] H Q E
theorem op_binM {op : Operator} (M : Meth X.K C (dunder op.info.snd) g) (hc : PySem.W.selfFirst X.K C = true) (F : FnR X.prog X.w X.K X.mg X.base CX n g sp) (hr : Room n X.A) (hx : Passes CX X E) : OpR X (binaryOp op) (rBinM C sp E) := by
  intro pins s σ H x y v u Q I rx ry h
  obtain ⟨a, dx, fs, b, dy, gs, rfl, rfl, ha, hb, q⟩ := h
  cases (show v = Value.ref a from rx)
  cases (show u = Value.ref b from ry)
  obtain ⟨ox, od, J⟩ := ins_at I ha
  obtain ⟨oy, ody, Jb⟩ := ins_at I hb
  obtain ⟨m, hF⟩ := I.fr
  refine PySem.W.binop_K hF I.ok.mod.kin J Jb.type hc M.at_ M.fn ?_
  refine wpAny_mono (wpAny_call (run_fnR (us := [.ref a, .ref b]) (vs := [.ref a, .ref b]) F hr hx I (.cons rfl (.cons rfl .nil)) q)) (fun w s' z => ?_) fun _ _ x => x
  obtain ⟨z', H', I', rz, qz⟩ := z
  exact SlX.cmpback rz ⟨z', H', I', rz, qz⟩
/-- x <= y and the like -/
theorem op_cmpM {op : CmpOp} (ho : compareOp op = richCompare op) (M : Meth X.K C ((cmpInfo op).snd.fst) g) (F : FnR X.prog X.w X.K X.mg X.base CX n g sp) (hr : Room n X.A) (hx : Passes CX X E) : OpR X (compareOp op) (rBinM C sp E) := by
  intro pins s σ H x y v u Q I rx ry h
  obtain ⟨a, dx, fs, b, dy, gs, rfl, rfl, ha, hb, q⟩ := h
  cases (show v = Value.ref a from rx)
  cases (show u = Value.ref b from ry)
  obtain ⟨ox, od, J⟩ := ins_at I ha
  obtain ⟨oy, ody, Jb⟩ := ins_at I hb
  obtain ⟨m, hF⟩ := I.fr
  rw [ho]
  refine PySem.W.cmp_K (op := op) (tb := .ref C) hr.units0 hF I.ok.mod.kin J Jb.type notFirst_self M.at_ M.fn ?_
  refine wpAny_mono (wpAny_call (run_fnR (us := [.ref a, .ref b]) (vs := [.ref a, .ref b]) F hr hx I (.cons rfl (.cons rfl .nil)) q)) (fun w s' z => ?_) fun _ _ x => x
  obtain ⟨z', H', I', rz, qz⟩ := z
  exact SlX.cmpback rz ⟨z', H', I', rz, qz⟩
theorem cmpLe : compareOp .LtE = richCompare .LtE := rfl
theorem cmpLt : compareOp .Lt = richCompare .Lt := rfl
theorem cmpGe : compareOp .GtE = richCompare .GtE := rfl
theorem cmpGt : compareOp .Gt = richCompare .Gt := rfl
end
end Rs
/-! list(zip(a, b)) of two lists. -/
namespace Rs
open PySem PySem.Spec PyProof.Rows L2
theorem wpAny_alive {M : Model} {A : Around} {E : Value → Shared → Prop} {s : Shared} {a : Addr} {Q : Option Obj → Shared → Prop} (h : Q (s.heap.get? a) s) : wpAny M A (Sem.loadIfAlive a Sem.pure) Q E s := by
  intro Γ p hΓ
  rw [Sem.wp_loadIfAlive]
  exact h
def zipO (T0 : Addr) (t : Tok) (fl : Bool) (TI TO : Addr) : Obj := { cls := .type "zip", data := .fields #[.int (T0 : Int) t, .bool fl, .bool false, .ref TI, .ref TO] }
section
variable {prog : Program} {w : World} {A : Around} {E : Value → Shared → Prop} {z TI TO i1 i2 l1 l2 T0 : Addr} {k : Nat} {xs ys : Array Value} {x y a b : Value} {o : Obj} {t : Tok} 
theorem draw1 {s : Shared} {it l : Addr} (hA : A.handled = none) (ne : l ≠ it) (h1 : s.heap.IsListIter it l k) (h2 : s.heap.IsList l xs) (hx : xs[k]? = some x) {Q : Value → Shared → Prop}
    (q : ∀ h' tk, h'.IsListIter it l (k + 1) → Heap.SameBut it s.heap h' → Q x { heap := h', gens := s.gens, drawn := s.drawn, toks := tk, os := s.os }) : wpAny (model prog w) A (Builtin.SmallTypes.nextOf (.ref it)) Q E s := by
  have lt : k < xs.size := by
    rcases Nat.lt_or_ge k xs.size with h | h
    · exact h
    · rw [Array.getElem?_eq_none h] at hx
      cases hx
  refine (Draws.list (prog := prog) (w := w) hA it l ne xs).item k s Q E lt ⟨h1, h2⟩ (fun v h' tk hv st sb => ?_)
  rw [hx] at hv
  injection hv with hv
  subst hv
  exact q h' tk st.1 sb
theorem iter_but {h h' : Heap} {c it l : Addr} {i : Nat} (sb : Heap.SameBut c h h') (ne : it ≠ c) (q : h.IsListIter it l i) : h'.IsListIter it l i := by
  obtain ⟨o, e, r⟩ := q
  exact ⟨o, by rw [sb.2 _ ne]; exact e, r⟩
theorem list_but {h h' : Heap} {c l : Addr} {xs : Array Value} (sb : Heap.SameBut c h h') (ne : l ≠ c) (q : h.IsList l xs) : h'.IsList l xs := by
  obtain ⟨o, e, r⟩ := q
  exact ⟨o, by rw [sb.2 _ ne]; exact e, r⟩
theorem owned_no {s : Shared} {fl : Bool} {Q : Bool → Shared → Prop}
    (hz : s.heap.get? z = some { cls := .type "zip", data := .fields #[.int (T0 : Int) t, .bool fl, .bool false, .ref TI, .ref TO] }) (hT : s.heap.get? T0 = some o)
    (q : ∀ h', h'.get? z = some { cls := .type "zip", data := .fields #[.int (T0 : Int) t, .bool true, .bool false, .ref TI, .ref TO] } → Heap.SameBut z s.heap h' →
      Q false { heap := h', gens := s.gens, drawn := s.drawn, toks := s.toks, os := s.os }) :
    wpAny (model prog w) A (Builtin.SmallTypes.ownedTupleIsFree (.ref z)) Q E s := by
  unfold Builtin.SmallTypes.ownedTupleIsFree
  refine wpAny_bind (wpAny_field hz rfl rfl ?_)
  dsimp only
  refine wpAny_bind (wpAny_alive ?_)
  rw [show ((T0 : Int)).toNat = T0 from Int.toNat_natCast T0, hT]
  rw [if_neg (by simp)]
  refine wpAny_bind (wpAny_field hz rfl rfl ?_)
  cases fl
  · split
    · refine wpAny_bind (wpAny_setField hz rfl (show 1 < 5 by decide) (wpAny_pure ?_))
      exact q _ (Heap.get?_update_self _ hz rfl) (Heap.SameBut.update _ _ _)
    · rename_i c
      exact absurd rfl c
  · split
    · rename_i c
      exact absurd c (by simp)
    · exact wpAny_pure (q s.heap hz ⟨rfl, fun _ _ => rfl⟩)
/-- one more pair, the elder one of the zip being held -/
theorem zip_again {s : Shared} {fl : Bool} {Q : PySem.Fin → Shared → Prop} (hA : A.handled = none) (ap : ZipApart z TI TO i1 i2 l1 l2)
    (hz : s.heap.get? z = some { cls := .type "zip", data := .fields #[.int (T0 : Int) t, .bool fl, .bool false, .ref TI, .ref TO] }) (hT : s.heap.get? T0 = some o)
    (hTI : s.heap.get? TI = some { cls := .type "tuple", data := .seq #[.ref i1, .ref i2] })
    (h1 : s.heap.IsListIter i1 l1 k) (h2 : s.heap.IsListIter i2 l2 k) (g1 : s.heap.IsList l1 xs) (g2 : s.heap.IsList l2 ys) (hx : xs[k]? = some x) (hy : ys[k]? = some y)
    (q : ∀ h' tk, h'.get? z = some { cls := .type "zip", data := .fields #[.int (T0 : Int) t, .bool true, .bool false, .ref TI, .ref TO] } → h'.IsListIter i1 l1 (k + 1) → h'.IsListIter i2 l2 (k + 1) →
      h'.get? s.heap.objs.size = some { cls := .type "tuple", data := .seq #[x, y] } → h'.objs.size = s.heap.objs.size + 1 →
      (∀ c o, c ≠ z → c ≠ i1 → c ≠ i2 → s.heap.get? c = some o → h'.get? c = some o) → Q (.done (.ret (.ref s.heap.objs.size))) { heap := h', gens := s.gens, drawn := s.drawn, toks := tk, os := s.os }) :
    wpAny (model prog w) A (Builtin.«zip.__next__» ⟨[.ref z], []⟩) Q E s := by
  unfold Builtin.«zip.__next__»
  repeat (first
    | (refine owned_no hz hT (fun h0 hz0 sb0 => ?_))
    | (refine draw1 hA ap.l2i2 (iter_but sb ap.i12.symm (iter_but sb0 ap.i2z h2)) (list_but sb ap.l2i1 (list_but sb0 ap.l2z g2)) hy (fun h3 tk3 j2 sb3 => ?_))
    | (refine draw1 hA ap.l1i1 (iter_but sb0 ap.i1z h1) (list_but sb0 ap.l1z g1) hx (fun h' tk j1 sb => ?_))
    | wp_step)
  have sz : h3.objs.size = s.heap.objs.size := sb3.1.trans (sb.1.trans sb0.1)
  have old : ∀ c o, c ≠ z → c ≠ i1 → c ≠ i2 → s.heap.get? c = some o → h3.get? c = some o := fun c o c1 c2 c3 h => by
    rw [sb3.2 c c3, sb.2 c c2, sb0.2 c c1]
    exact h
  have z3 : h3.get? z = some { cls := .type "zip", data := .fields #[.int (T0 : Int) t, .bool true, .bool false, .ref TI, .ref TO] } := by
    rw [sb3.2 z ap.i2z.symm, sb.2 z ap.i1z.symm]
    exact hz0
  rw [sz]
  refine q _ _ (Heap.get?_push_of_some _ z3) ?_ ?_ ?_ ?_ ?_
  · obtain ⟨o, e, r⟩ := iter_but sb3 ap.i12 j1
    exact ⟨o, Heap.get?_push_of_some _ e, r⟩
  · obtain ⟨o, e, r⟩ := j2
    exact ⟨o, Heap.get?_push_of_some _ e, r⟩
  · rw [← sz]
    exact Heap.get?_push_size _ rfl
  · rw [Heap.size_push, sz]
  · intro c o c1 c2 c3 h
    exact Heap.get?_push_of_some _ (old c o c1 c2 c3 h)
end
end Rs
namespace Rs
open PySem PySem.Spec PyProof.Rows L2
section
variable {prog : Program} {w : World} {A : Around} {E : Value → Shared → Prop} {z TI TO i1 i2 l1 l2 T0 : Addr} {k : Nat} {xs ys : Array Value} {x y a b : Value} {o : Obj} {t : Tok} 
theorem draw_end {s : Shared} {it l : Addr} (hA : A.handled = none) (ne : l ≠ it) (h1 : s.heap.IsListIter it l xs.size) (h2 : s.heap.IsList l xs) {Q : Value → Shared → Prop}
    (q : ∀ h' e, Heap.ExtBut it s.heap h' → (∃ o, h'.get? e = some o ∧ o.cls = .type "StopIteration") → E (.ref e) { heap := h', gens := s.gens, drawn := s.drawn, toks := s.toks, os := s.os }) : wpAny (model prog w) A (Builtin.SmallTypes.nextOf (.ref it)) Q E s :=
  (Draws.list (prog := prog) (w := w) hA it l ne xs).done s Q E ⟨h1, h2⟩ q
/-- the first list is at its end -/
theorem zip_over {s : Shared} {fl : Bool} {Q : PySem.Fin → Shared → Prop} (hA : A.handled = none) (ap : ZipApart z TI TO i1 i2 l1 l2)
    (hz : s.heap.get? z = some { cls := .type "zip", data := .fields #[.int (T0 : Int) t, .bool fl, .bool false, .ref TI, .ref TO] }) (hT : s.heap.get? T0 = some o)
    (hTI : s.heap.get? TI = some { cls := .type "tuple", data := .seq #[.ref i1, .ref i2] })
    (h1 : s.heap.IsListIter i1 l1 xs.size) (g1 : s.heap.IsList l1 xs)
    (q : ∀ h' e, (∀ c o, c ≠ z → c ≠ i1 → s.heap.get? c = some o → h'.get? c = some o) → (∃ o, h'.get? e = some o ∧ o.cls = .type "StopIteration") → E (.ref e) { heap := h', gens := s.gens, drawn := s.drawn, toks := s.toks, os := s.os }) :
    wpAny (model prog w) A (Builtin.«zip.__next__» ⟨[.ref z], []⟩) Q E s := by
  unfold Builtin.«zip.__next__»
  repeat (first
    | (refine owned_no hz hT (fun h0 hz0 sb0 => ?_))
    | (refine draw_end hA ap.l1i1 (iter_but sb0 ap.i1z h1) (list_but sb0 ap.l1z g1) (fun h' e ex ho => q h' e (fun c o c1 c2 h => ex c o c2 (by rw [sb0.2 c c1]; exact h)) ho))
    | wp_step)
theorem zip_next {s : Shared} {Q : Option Value → Shared → Prop} {fl : Bool} (hA : A.handled = none) (ap : ZipApart z TI TO i1 i2 l1 l2)
    (hz : s.heap.get? z = some { cls := .type "zip", data := .fields #[.int (T0 : Int) t, .bool fl, .bool false, .ref TI, .ref TO] }) (hT : s.heap.get? T0 = some o)
    (hTI : s.heap.get? TI = some { cls := .type "tuple", data := .seq #[.ref i1, .ref i2] })
    (h1 : s.heap.IsListIter i1 l1 k) (h2 : s.heap.IsListIter i2 l2 k) (g1 : s.heap.IsList l1 xs) (g2 : s.heap.IsList l2 ys) (hx : xs[k]? = some x) (hy : ys[k]? = some y)
    (q : ∀ h' tk, h'.get? z = some { cls := .type "zip", data := .fields #[.int (T0 : Int) t, .bool true, .bool false, .ref TI, .ref TO] } → h'.IsListIter i1 l1 (k + 1) → h'.IsListIter i2 l2 (k + 1) →
      h'.get? s.heap.objs.size = some { cls := .type "tuple", data := .seq #[x, y] } → h'.objs.size = s.heap.objs.size + 1 →
      (∀ c o, c ≠ z → c ≠ i1 → c ≠ i2 → s.heap.get? c = some o → h'.get? c = some o) → Q (some (.ref s.heap.objs.size)) { heap := h', gens := s.gens, drawn := s.drawn, toks := tk, os := s.os }) :
    wpAny (model prog w) A (pyNext (.ref z)) Q E s := by
  unfold pyNext
  refine wpAny_bind (wpAny_attempt (wpAny_callSpecial?_slot (T := "zip") ⟨_, hz, rfl⟩ F.slot_zip_next (wpAny_call (codeAny_call_builtin F.slot_zip_next.plain F.entry_zip_next ?_))))
  refine F.slot_zip_next.check _ _ _ s (.ref z) [] [] _ ⟨_, hz, rfl⟩ (F.args_zip_next_1 _) ?_
  exact zip_again (A := A.in1) hA ap hz hT hTI h1 h2 g1 g2 hx hy (fun h' tk a1 a2 a3 a4 a5 a6 => wpAny_pure (q h' tk a1 a2 a3 a4 a5 a6))
theorem zip_end {s : Shared} {Q : Option Value → Shared → Prop} {fl : Bool} (hA : A.handled = none) (ap : ZipApart z TI TO i1 i2 l1 l2)
    (hz : s.heap.get? z = some { cls := .type "zip", data := .fields #[.int (T0 : Int) t, .bool fl, .bool false, .ref TI, .ref TO] }) (hT : s.heap.get? T0 = some o)
    (hTI : s.heap.get? TI = some { cls := .type "tuple", data := .seq #[.ref i1, .ref i2] })
    (h1 : s.heap.IsListIter i1 l1 xs.size) (g1 : s.heap.IsList l1 xs)
    (q : ∀ h', (∀ c o, c ≠ z → c ≠ i1 → s.heap.get? c = some o → h'.get? c = some o) → Q none { heap := h', gens := s.gens, drawn := s.drawn, toks := s.toks, os := s.os }) :
    wpAny (model prog w) A (pyNext (.ref z)) Q E s := by
  unfold pyNext
  refine wpAny_bind (wpAny_attempt (wpAny_callSpecial?_slot (T := "zip") ⟨_, hz, rfl⟩ F.slot_zip_next (wpAny_call (codeAny_call_builtin F.slot_zip_next.plain F.entry_zip_next ?_))))
  refine F.slot_zip_next.check _ _ _ s (.ref z) [] [] _ ⟨_, hz, rfl⟩ (F.args_zip_next_1 _) ?_
  refine zip_over (A := A.in1) hA ap hz hT hTI h1 g1 (fun h' e old ho => ?_)
  obtain ⟨o, ho, hc⟩ := ho
  dsimp only
  refine wpAny_bind (wpAny_isInstance (T := "StopIteration") (b := true) ⟨o, ho, hc⟩ (by first | rfl | simp [isSubtype] | decide) ?_)
  rw [if_pos rfl]
  exact wpAny_pure (q h' old)
/-- how a zip stands behind k pairs, the first one at T0 -/
structure ZSt (h : Heap) (z TI TO i1 i2 l1 l2 T0 : Addr) (xs ys : Array Value) (k : Nat) : Prop where
  zip : ∃ t fl, h.get? z = some { cls := .type "zip", data := .fields #[.int (T0 : Int) t, .bool fl, .bool false, .ref TI, .ref TO] }
  old : ∃ o, h.get? T0 = some o
  its : h.get? TI = some { cls := .type "tuple", data := .seq #[.ref i1, .ref i2] }
  at1 : h.IsListIter i1 l1 k
  at2 : h.IsListIter i2 l2 k
  li1 : h.IsList l1 xs
  li2 : h.IsList l2 ys
/-- the pairs laid down so far -/
structure ZOut (h : Heap) (lo : Nat) (xs ys : Array Value) (as : List Addr) : Prop where
  rise : as.Pairwise (· < ·)
  above : ∀ a ∈ as, lo ≤ a
  pairs : ∀ (j : Nat) (a : Addr), as[j]? = some a → ∃ x y, xs[j]? = some x ∧ ys[j]? = some y ∧ h.get? a = some { cls := .type "tuple", data := .seq #[x, y] }
theorem far {a b lo : Nat} (h : b < lo) (h2 : lo ≤ a) : a ≠ b := by omega
theorem ZOut.snoc {h h' : Heap} {lo : Nat} {xs ys : Array Value} {as : List Addr} {x y : Value} {n : Nat} (q : ZOut h lo xs ys as) (hn : as.length = n) (hx : xs[n]? = some x) (hy : ys[n]? = some y) (ho : ∀ a ∈ as, ∀ o, h.get? a = some o → h'.get? a = some o) (hl : lo ≤ h.objs.size)
    (hw : h'.get? h.objs.size = some { cls := .type "tuple", data := .seq #[x, y] }) : ZOut h' lo xs ys (as ++ [h.objs.size]) where
  rise := by
    rw [List.pairwise_append]
    refine ⟨q.rise, List.pairwise_singleton _ _, fun a ha b hb => ?_⟩
    rw [List.mem_singleton] at hb
    subst hb
    obtain ⟨j, hj⟩ := List.getElem?_of_mem ha
    obtain ⟨_, _, _, _, e⟩ := q.pairs j a hj
    exact Heap.lt_size e
  above := fun a ha => by
    rcases List.mem_append.mp ha with ha | ha
    · exact q.above a ha
    · rw [List.mem_singleton] at ha
      exact ha ▸ hl
  pairs := fun j a e => by
    rcases Nat.lt_or_ge j as.length with lt | ge
    · rw [List.getElem?_append_left lt] at e
      obtain ⟨x', y', ex, ey, et⟩ := q.pairs j a e
      exact ⟨x', y', ex, ey, ho a (List.mem_of_getElem? e) _ et⟩
    · rw [List.getElem?_append_right ge] at e
      have j0 : j - as.length = 0 := by
        rcases Nat.eq_zero_or_pos (j - as.length) with z | z
        · exact z
        · rw [List.getElem?_eq_none (by simp; omega)] at e
          cases e
      rw [j0] at e
      injection e with e
      subst e
      have : j = n := by omega
      subst this
      exact ⟨x, y, hx, hy, hw⟩
theorem quietL {args : Args} : (Code.builtin "list.extend.loop" args).quiet = true := by
  first | exact Code.quiet_builtin _ (by decide +kernel) | exact plainId_quiet (by decide +kernel) _
theorem zip_loop {R : Result → Shared → Prop} (hA : A.handled = none) (ap : ZipApart z TI TO i1 i2 l1 l2) (hl : xs.size = ys.size) (hs : xs.size ≤ sizeLine) {S : Addr} (ne : S ≠ z ∧ S ≠ TI ∧ S ≠ i1 ∧ S ≠ i2 ∧ S ≠ l1 ∧ S ≠ l2 ∧ S ≠ T0 ∧ S ≠ TO) (T0z : T0 ≠ z ∧ T0 ≠ i1 ∧ T0 ≠ i2) (res : Value) {lo : Nat} (lz : z < lo ∧ i1 < lo ∧ i2 < lo ∧ S < lo) (h0 : Heap) (s0 : Shared)
    (fin : ∀ (s' : Shared) (acc : Array Value) (c : Nat) (as : List Addr), s'.gens = s0.gens ∧ s'.drawn = s0.drawn ∧ s'.os = s0.os → (∀ b o, b ≠ z → b ≠ i1 → b ≠ i2 → b ≠ S → h0.get? b = some o → s'.heap.get? b = some o) → s'.heap.get? S = some { cls := .type "list", data := .seq acc c } →
      acc.toList = as.map Value.ref → as.length = xs.size → ZOut s'.heap lo xs ys as → R (.ok (.ret res)) s') :
    ∀ (d k : Nat) (s : Shared) (acc : Array Value) (c : Nat) (as : List Addr), (s.gens = s0.gens ∧ s.drawn = s0.drawn ∧ s.os = s0.os) → xs.size - k = d → k ≤ xs.size → lo ≤ s.heap.objs.size → ZSt s.heap z TI TO i1 i2 l1 l2 T0 xs ys k → (∀ b o, b ≠ z → b ≠ i1 → b ≠ i2 → b ≠ S → h0.get? b = some o → s.heap.get? b = some o) →
      s.heap.get? S = some { cls := .type "list", data := .seq acc c } → acc.toList = as.map Value.ref → as.length = k → ZOut s.heap lo xs ys as →
      codeAny (model prog w) A (.builtin "list.extend.loop" { pos := [.ref S, .ref z, res] }) R s := by
  intro d
  induction d with
  | zero =>
    intro k s acc c as he hd hk hlo zs old hS ha hn zo
    obtain ⟨t, fl, hz⟩ := zs.zip
    obtain ⟨o, hT⟩ := zs.old
    have ek : k = xs.size := by omega
    subst ek
    refine codeAny_builtin F.entry_extend_loop ?_
    unfold Builtin.«list.extend.loop»
    dsimp only
    refine wpAny_bind (zip_end (A := A.under _) hA ap hz hT zs.its zs.at1 zs.li1 (fun h' kp => ?_))
    dsimp only
    have kS : ∀ b o, b ≠ z → b ≠ i1 → b ≠ i2 → b ≠ S → h0.get? b = some o → h'.get? b = some o := fun b o b1 b2 b3 b4 h => kp b o b1 b2 (old b o b1 b2 b3 b4 h)
    refine wpAny_pure (fin _ acc c as he kS (kp _ _ ne.1 ne.2.2.1 hS) ha hn ⟨zo.rise, zo.above, fun j a e => ?_⟩)
    obtain ⟨x, y, ex, ey, et⟩ := zo.pairs j a e
    have := zo.above a (List.mem_of_getElem? e)
    exact ⟨x, y, ex, ey, kp _ _ (far lz.1 this) (far lz.2.1 this) et⟩
  | succ d ih =>
    intro k s acc c as he hd hk hlo zs old hS ha hn zo
    obtain ⟨t, fl, hz⟩ := zs.zip
    obtain ⟨o, hT⟩ := zs.old
    have lt : k < xs.size := by omega
    have lt2 : k < ys.size := by omega
    have hx : xs[k]? = some xs[k] := Array.getElem?_eq_getElem lt
    have hy : ys[k]? = some ys[k] := Array.getElem?_eq_getElem lt2
    have al : acc.size = k := by
      have := congrArg List.length ha
      rw [Array.length_toList, List.length_map] at this
      omega
    refine codeAny_builtin F.entry_extend_loop ?_
    unfold Builtin.«list.extend.loop»
    dsimp only
    refine wpAny_bind (zip_next (A := A.under _) hA ap hz hT zs.its zs.at1 zs.at2 zs.li1 zs.li2 hx hy (fun h' tk z' j1 j2 tp sz kp => ?_))
    dsimp only
    have hS' := kp S _ ne.1 ne.2.2.1 ne.2.2.2.1 hS
    refine wpAny_bind (wpAny_updateSeq (f := fun v => v.push (.ref s.heap.objs.size)) hS' rfl ?_ (by omega) (by rw [Array.size_push]; omega))
    have sb := Heap.SameBut.update h' S (Obj.mapSeq fun v => v.push (.ref s.heap.objs.size))
    have hS2 := Heap.get?_update_self (Obj.mapSeq fun v => v.push (.ref s.heap.objs.size)) hS' rfl
    generalize h'.update S (Obj.mapSeq fun v => v.push (.ref s.heap.objs.size)) = h2 at sb hS2
    have nS : s.heap.objs.size ≠ S := far lz.2.2.2 hlo
    have kp2 : ∀ b o, b ≠ z → b ≠ i1 → b ≠ i2 → b ≠ S → s.heap.get? b = some o → h2.get? b = some o := fun b o b1 b2 b3 b4 h => by
      rw [sb.2 b b4]
      exact kp b o b1 b2 b3 h
    have lst : ∀ {l : Addr} {vs : Array Value}, l ≠ z → l ≠ i1 → l ≠ i2 → S ≠ l → s.heap.IsList l vs → h2.IsList l vs := fun n1 n2 n3 n4 q => by
      obtain ⟨o, e, r⟩ := q
      exact ⟨o, kp2 _ _ n1 n2 n3 n4.symm e, r⟩
    refine wpAny_pure ⟨quietL, ih (k + 1) _ _ _ (as ++ [s.heap.objs.size]) he (by omega) lt (by show lo ≤ h2.objs.size; rw [sb.1, sz]; omega) ⟨⟨t, true, ?_⟩, ⟨o, kp2 _ _ T0z.1 T0z.2.1 T0z.2.2 ne.2.2.2.2.2.2.1.symm hT⟩, kp2 _ _ ap.TIz ap.TIi1 ap.TIi2 ne.2.1.symm zs.its, iter_but sb ne.2.2.1.symm j1, iter_but sb ne.2.2.2.1.symm j2, lst ap.l1z ap.l1i1 ap.l1i2 ne.2.2.2.2.1 zs.li1, lst ap.l2z ap.l2i1 ap.l2i2 ne.2.2.2.2.2.1 zs.li2⟩ (fun b o b1 b2 b3 b4 h => kp2 b o b1 b2 b3 b4 (old b o b1 b2 b3 b4 h)) hS2 ?_ (by rw [List.length_append, hn]; rfl) (zo.snoc hn hx hy (fun a ha' o e => ?_) hlo ?_)⟩
    · show h2.get? z = _
      rw [sb.2 z ne.1.symm]
      exact z'
    · rw [Array.toList_push, ha, List.map_append]
      rfl
    · have := zo.above a ha'
      exact kp2 a o (far lz.1 this) (far lz.2.1 this) (far lz.2.2.1 this) (far lz.2.2.2 this) e
    · show h2.get? _ = _
      rw [sb.2 _ nS]
      exact tp
end
end Rs
open PySem PySem.Spec PyProof.Rows L2
namespace Rs
section
variable {prog : Program} {w : World} {A : Around} {E : Value → Shared → Prop} {z TI TO i1 i2 l1 l2 T0 : Addr} {k : Nat} {xs ys : Array Value} {x y a b : Value} {o : Obj} {t : Tok} 
theorem zip_nolen : typeLookup (.type "zip") (Str.ofString "__len__") = pure none := rfl
theorem zip_nohint : typeLookup (.type "zip") (Str.ofString "__length_hint__") = pure none := rfl
/-- how a new zip stands -/
structure ZNew (h : Heap) (z TI TO i1 i2 l1 l2 : Addr) (xs ys : Array Value) : Prop where
  zip : IsZip h z TI TO .none
  its : IsPair h TI (.ref i1) (.ref i2)
  own : IsPair h TO .none .none
  at1 : h.IsListIter i1 l1 0
  at2 : h.IsListIter i2 l2 0
  li1 : h.IsList l1 xs
  li2 : h.IsList l2 ys
theorem ext_zip {R : Result → Shared → Prop} {s : Shared} {S : Addr} {res : Value} {c0 : Nat} (hA : A.handled = none) (ap : ZipApart z TI TO i1 i2 l1 l2)
    (zn : ZNew s.heap z TI TO i1 i2 l1 l2 xs ys) (nSz : S ≠ z)
    (hS : s.heap.get? S = some { cls := .type "list", data := .seq #[] c0 })
    (q : ∀ h' c, h'.get? S = some { cls := .type "list", data := .seq #[] c } → Heap.SameBut S s.heap h' → codeAny (model prog w) A (.builtin "list.extend.loop" { pos := [.ref S, .ref z, res] }) R { s with heap := h' }) :
    wpAny (model prog w) A.in1 (Builtin.List.listExtendWith (.ref S) (.ref z) res)
      (fun fin s' => match fin with | .done f => R (.ok f) s' | .again c' => c'.quiet = true ∧ codeAny (model prog w) A c' R s') (fun e s' => R (.error e) s') s := by
  have hz := zn.zip
  have iter : ∀ {E1 : Value → Shared → Prop} {Q1 : Value → Shared → Prop}, Q1 (.ref z) s → wpAny (model prog w) A.in1 (pyIter (.ref z)) Q1 E1 s := fun {E1 Q1} h1 =>
    (WalksT.zip2 (A := A.in1) hA z TI TO i1 i2 l1 l2 ap xs ys).self 0 s Q1 E1 ⟨zn.zip, zn.its, ⟨_, _, zn.own⟩, zn.at1, zn.at2, zn.li1, zn.li2⟩ h1
  have hint : ∀ {A1 : Around} {E1 : Value → Shared → Prop} {Q1 : Bool → Shared → Prop}, Q1 true s → wpAny (model prog w) A1 (Builtin.List.listLengthHint (.ref z)) Q1 E1 s := by
    intro A1 E1 Q1 h1
    unfold Builtin.List.listLengthHint
    repeat (first | (refine wpAny_of_eq zip_nolen ?_) | (refine wpAny_of_eq zip_nohint ?_) | wp_step)
    exact h1
  unfold Builtin.List.listExtendWith
  have sr : (Builtin.List.listSameRef (.ref S) (.ref z) || Value.type "zip" == Value.type "list" || Value.type "zip" == Value.type "tuple") = false := by
    have : Builtin.List.listSameRef (.ref S) (.ref z) = false := by
      unfold Builtin.List.listSameRef
      first | exact beq_false_of_ne nSz | simpa using nSz | simp [nSz]
    rw [this]
    rfl
  refine wpAny_bind (wpAny_typeOf_ref hz ?_)
  rw [sr]
  rw [if_neg (by decide)]
  refine wpAny_bind (iter ?_)
  refine wpAny_bind (wpAny_holding (hint ?_))
  dsimp only
  rw [Bool.true_or, if_pos rfl]
  repeat wp_step
  have s1 := Heap.SameBut.update s.heap S (Obj.mapSeq fun x => x.push Value.none)
  have g1 := Heap.get?_update_self (Obj.mapSeq fun x => x.push Value.none) hS rfl
  have s2 := Heap.SameBut.update (s.heap.update S (Obj.mapSeq fun x => x.push Value.none)) S (Obj.mapSeq fun x => x.pop)
  have g2 := Heap.get?_update_self (Obj.mapSeq fun x => x.pop) g1 rfl
  exact ⟨quietL, q _ _ g2 ⟨s2.1.trans s1.1, fun b hb => (s2.2 b hb).trans (s1.2 b hb)⟩⟩
theorem rawInt_is (n : Nat) : ∃ t, rawInt (n : Int) = .int (n : Int) t := ⟨_, rfl⟩
/-- the walk from the first pair on -/
theorem zip_walk {R : Result → Shared → Prop} {s : Shared} {S : Addr} {c0 : Nat} (hA : A.handled = none) (ap : ZipApart z TI TO i1 i2 l1 l2) (hl : xs.size = ys.size) (n0 : 0 < xs.size) (hs : xs.size ≤ sizeLine) (res : Value)
    (zn : ZNew s.heap z TI TO i1 i2 l1 l2 xs ys) (ne : S ≠ z ∧ S ≠ TI ∧ S ≠ i1 ∧ S ≠ i2 ∧ S ≠ l1 ∧ S ≠ l2 ∧ S ≠ TO)
    (hS : s.heap.get? S = some { cls := .type "list", data := .seq #[] c0 })
    (fin : ∀ (s' : Shared) (acc : Array Value) (c : Nat) (as : List Addr), s'.gens = s.gens ∧ s'.drawn = s.drawn ∧ s'.os = s.os → (∀ b o, b ≠ z → b ≠ TO → b ≠ i1 → b ≠ i2 → b ≠ S → s.heap.get? b = some o → s'.heap.get? b = some o) → s'.heap.get? S = some { cls := .type "list", data := .seq acc c } →
      acc.toList = as.map Value.ref → as.length = xs.size → ZOut s'.heap s.heap.objs.size xs ys as → R (.ok (.ret res)) s') :
    codeAny (model prog w) A (.builtin "list.extend.loop" { pos := [.ref S, .ref z, res] }) R s := by
  have lt2 : 0 < ys.size := by omega
  have hx : xs[0]? = some xs[0] := Array.getElem?_eq_getElem n0
  have hy : ys[0]? = some ys[0] := Array.getElem?_eq_getElem lt2
  have bz := Heap.lt_size zn.zip
  have bS := Heap.lt_size hS
  have b1 : i1 < s.heap.objs.size := by
    obtain ⟨o, e, _⟩ := zn.at1
    exact Heap.lt_size e
  have b2 : i2 < s.heap.objs.size := by
    obtain ⟨o, e, _⟩ := zn.at2
    exact Heap.lt_size e
  refine codeAny_builtin F.entry_extend_loop ?_
  unfold Builtin.«list.extend.loop»
  dsimp only
  refine wpAny_bind (wpAny_pyNext_zip_item ap zn.zip zn.its zn.own zn.at1 zn.at2 zn.li1 zn.li2 hx hy (fun h' z' to' j1 j2 tp sz kp => ?_))
  dsimp only
  have hS' := kp S _ ne.1 ne.2.2.2.2.2.2 ne.2.2.1 ne.2.2.2.1 hS
  refine wpAny_bind (wpAny_updateSeq (f := fun v => v.push (.ref s.heap.objs.size)) hS' rfl ?_ (by decide) (by show 1 ≤ sizeLine + 1; omega))
  have sb := Heap.SameBut.update h' S (Obj.mapSeq fun v => v.push (.ref s.heap.objs.size))
  have hS2 := Heap.get?_update_self (Obj.mapSeq fun v => v.push (.ref s.heap.objs.size)) hS' rfl
  generalize h'.update S (Obj.mapSeq fun v => v.push (.ref s.heap.objs.size)) = h2 at sb hS2
  have nS : s.heap.objs.size ≠ S := far bS (Nat.le_refl _)
  have kp2 : ∀ b o, b ≠ z → b ≠ TO → b ≠ i1 → b ≠ i2 → b ≠ S → s.heap.get? b = some o → h2.get? b = some o := fun b o b1 b2 b3 b4 b5 h => by
    rw [sb.2 b b5]
    exact kp b o b1 b2 b3 b4 h
  have lst : ∀ {l : Addr} {vs : Array Value}, l ≠ z → l ≠ TO → l ≠ i1 → l ≠ i2 → S ≠ l → s.heap.IsList l vs → h2.IsList l vs := fun n1 n2 n3 n4 n5 q => by
    obtain ⟨o, e, r⟩ := q
    exact ⟨o, kp2 _ _ n1 n2 n3 n4 n5.symm e, r⟩
  have tp2 : h2.get? s.heap.objs.size = some { cls := .type "tuple", data := .seq #[xs[0], ys[0]] } := by
    rw [sb.2 _ nS]
    exact tp
  obtain ⟨t, et⟩ := rawInt_is s.heap.objs.size
  refine wpAny_pure ⟨quietL, zip_loop (T0 := s.heap.objs.size) hA ap hl hs ⟨ne.1, ne.2.1, ne.2.2.1, ne.2.2.2.1, ne.2.2.2.2.1, ne.2.2.2.2.2.1, nS.symm, ne.2.2.2.2.2.2⟩ ⟨far bz (Nat.le_refl _), far b1 (Nat.le_refl _), far b2 (Nat.le_refl _)⟩ res (lo := s.heap.objs.size) ⟨bz, b1, b2, bS⟩ h2 s
    (fun s' acc c as he old hS3 ha hn zo => fin s' acc c as he (fun b o n1 n2 n3 n4 n5 h => old b o n1 n3 n4 n5 (kp2 b o n1 n2 n3 n4 n5 h)) hS3 ha hn zo)
    (xs.size - 1) 1 _ _ _ [s.heap.objs.size] ⟨rfl, rfl, rfl⟩ rfl n0 (by show s.heap.objs.size ≤ h2.objs.size; rw [sb.1, sz]; omega)
    ⟨⟨t, false, ?_⟩, ⟨_, tp2⟩, kp2 _ _ ap.TIz ap.TITO ap.TIi1 ap.TIi2 ne.2.1.symm zn.its, iter_but sb ne.2.2.1.symm j1, iter_but sb ne.2.2.2.1.symm j2, lst ap.l1z ap.l1TO ap.l1i1 ap.l1i2 ne.2.2.2.2.1 zn.li1, lst ap.l2z ap.l2TO ap.l2i1 ap.l2i2 ne.2.2.2.2.2.1 zn.li2⟩
    (fun b o _ _ _ _ h => h) hS2 rfl rfl ⟨List.pairwise_singleton _ _, fun a ha => by rw [List.mem_singleton.mp ha]; exact Nat.le_refl _, fun j a e => ?_⟩⟩
  · show h2.get? z = _
    rw [sb.2 z ne.1.symm, ← et]
    exact z'
  · cases j with
    | zero =>
      injection e with e
      subst e
      exact ⟨_, _, hx, hy, tp2⟩
    | succ j => cases e
end
end Rs
open PySem PySem.Spec PyProof.Rows L2
namespace Rs
section
variable {prog : Program} {w : World} {A : Around} {E : Value → Shared → Prop} {z TI TO i1 i2 l1 l2 T0 : Addr} {k : Nat} {xs ys : Array Value} {x y a b : Value} {o : Obj} {t : Tok} 
theorem ZNew.kept {h h' : Heap} (q : ZNew h z TI TO i1 i2 l1 l2 xs ys) (k : ∀ b o, h.get? b = some o → h'.get? b = some o) : ZNew h' z TI TO i1 i2 l1 l2 xs ys where
  zip := k _ _ q.zip
  its := k _ _ q.its
  own := k _ _ q.own
  at1 := by
    obtain ⟨o, e, r⟩ := q.at1
    exact ⟨o, k _ _ e, r⟩
  at2 := by
    obtain ⟨o, e, r⟩ := q.at2
    exact ⟨o, k _ _ e, r⟩
  li1 := by
    obtain ⟨o, e, r⟩ := q.li1
    exact ⟨o, k _ _ e, r⟩
  li2 := by
    obtain ⟨o, e, r⟩ := q.li2
    exact ⟨o, k _ _ e, r⟩
theorem init_zip {R : Result → Shared → Prop} {s : Shared} {S : Addr} {c0 : Nat} (hA : A.handled = none) (ap : ZipApart z TI TO i1 i2 l1 l2) (hl : xs.size = ys.size) (n0 : 0 < xs.size) (hs : xs.size ≤ sizeLine)
    (zn : ZNew s.heap z TI TO i1 i2 l1 l2 xs ys) (ne : S ≠ z ∧ S ≠ TI ∧ S ≠ i1 ∧ S ≠ i2 ∧ S ≠ l1 ∧ S ≠ l2 ∧ S ≠ TO)
    (hS : s.heap.get? S = some { cls := .type "list", data := .seq #[] c0 })
    (fin : ∀ (s' : Shared) (acc : Array Value) (c : Nat) (as : List Addr), s'.gens = s.gens ∧ s'.drawn = s.drawn ∧ s'.os = s.os → (∀ b o, b ≠ z → b ≠ TO → b ≠ i1 → b ≠ i2 → b ≠ S → s.heap.get? b = some o → s'.heap.get? b = some o) → s'.heap.get? S = some { cls := .type "list", data := .seq acc c } →
      acc.toList = as.map Value.ref → as.length = xs.size → ZOut s'.heap s.heap.objs.size xs ys as → R (.ok (.ret .none)) s') :
    codeAny (model prog w) A (.call (.builtin "list.__init__") { pos := [.ref S, .ref z] }) R s := by
  refine codeAny_call_builtin F.called_list.init.plain F.entry_list_init (F.called_list.init.check _ _ _ s (.ref S) [.ref z] [] _ ⟨_, hS, rfl⟩ rfl ?_)
  unfold Builtin.«list.__init__»
  dsimp only
  have hU := Heap.get?_update_self (Obj.mapSeq fun _ => #[]) hS rfl
  have sU := Heap.SameBut.update s.heap S (Obj.mapSeq fun _ => #[])
  have step : wpAny (model prog w) A.in1 (Builtin.List.listExtendWith (.ref S) (.ref z) .none)
      (fun fin s' => match fin with | .done f => R (.ok f) s' | .again c' => c'.quiet = true ∧ codeAny (model prog w) A c' R s') (fun e s' => R (.error e) s') { s with heap := s.heap.update S (Obj.mapSeq fun _ => #[]) } := by
    have kp : ∀ b o, b ≠ S → s.heap.get? b = some o → (s.heap.update S (Obj.mapSeq fun _ => #[])).get? b = some o := fun b o nb h => by
      rw [sU.2 b nb]
      exact h
    have znU : ZNew (s.heap.update S (Obj.mapSeq fun _ => #[])) z TI TO i1 i2 l1 l2 xs ys := by
      refine ⟨kp _ _ ne.1.symm zn.zip, kp _ _ ne.2.1.symm zn.its, kp _ _ ne.2.2.2.2.2.2.symm zn.own, iter_but sU ne.2.2.1.symm zn.at1, iter_but sU ne.2.2.2.1.symm zn.at2, list_but sU ne.2.2.2.2.1.symm zn.li1, list_but sU ne.2.2.2.2.2.1.symm zn.li2⟩
    refine ext_zip (xs := xs) (ys := ys) hA ap znU ne.1 hU (fun h' c hS' sb => ?_)
    have kp2 : ∀ b o, b ≠ S → s.heap.get? b = some o → h'.get? b = some o := fun b o nb h => by
      rw [sb.2 b nb]
      exact kp b o nb h
    have zn2 : ZNew h' z TI TO i1 i2 l1 l2 xs ys := by
      refine ⟨kp2 _ _ ne.1.symm zn.zip, kp2 _ _ ne.2.1.symm zn.its, kp2 _ _ ne.2.2.2.2.2.2.symm zn.own, iter_but sb ne.2.2.1.symm znU.at1, iter_but sb ne.2.2.2.1.symm znU.at2, list_but sb ne.2.2.2.2.1.symm znU.li1, list_but sb ne.2.2.2.2.2.1.symm znU.li2⟩
    have sz : h'.objs.size = s.heap.objs.size := sb.1.trans sU.1
    refine zip_walk hA ap hl n0 hs .none zn2 ne hS' (fun s' acc c as he old h3 ha hn zo => fin s' acc c as he (fun b o b1 b2 b3 b4 b5 h => old b o b1 b2 b3 b4 b5 (kp2 b o b5 h)) h3 ha hn ?_)
    rw [← sz]
    exact zo
  repeat (first
    | (refine step)
    | wp_step)
/-- list(z), z a new zip of two lists of one length -/
theorem call_list_zip {s : Shared} {Q : Value → Shared → Prop} (hA : A.handled = none) (ap : ZipApart z TI TO i1 i2 l1 l2) (hl : xs.size = ys.size) (n0 : 0 < xs.size) (hs : xs.size ≤ sizeLine)
    (zn : ZNew s.heap z TI TO i1 i2 l1 l2 xs ys)
    (fin : ∀ (s' : Shared) (acc : Array Value) (c : Nat) (as : List Addr), s'.gens = s.gens ∧ s'.drawn = s.drawn ∧ s'.os = s.os → (∀ b o, b ≠ z → b ≠ TO → b ≠ i1 → b ≠ i2 → s.heap.get? b = some o → s'.heap.get? b = some o) → s'.heap.get? s.heap.objs.size = some { cls := .type "list", data := .seq acc c } →
      acc.toList = as.map Value.ref → as.length = xs.size → ZOut s'.heap (s.heap.objs.size + 1) xs ys as → Q (.ref s.heap.objs.size) s') :
    wpAny (model prog w) A (call (.type "list") [.ref z]) Q E s := by
  have lt : ∀ b o, s.heap.get? b = some o → b ≠ s.heap.objs.size := fun b o e => (far (Heap.lt_size e) (Nat.le_refl _)).symm
  have ne : s.heap.objs.size ≠ z ∧ s.heap.objs.size ≠ TI ∧ s.heap.objs.size ≠ i1 ∧ s.heap.objs.size ≠ i2 ∧ s.heap.objs.size ≠ l1 ∧ s.heap.objs.size ≠ l2 ∧ s.heap.objs.size ≠ TO := by
    obtain ⟨_, a1, _⟩ := zn.at1
    obtain ⟨_, a2, _⟩ := zn.at2
    obtain ⟨_, a3, _⟩ := zn.li1
    obtain ⟨_, a4, _⟩ := zn.li2
    exact ⟨(lt _ _ zn.zip).symm, (lt _ _ zn.its).symm, (lt _ _ a1).symm, (lt _ _ a2).symm, (lt _ _ a3).symm, (lt _ _ a4).symm, (lt _ _ zn.own).symm⟩
  have zn2 : ZNew (s.heap.push { cls := .type "list", data := .seq #[] }) z TI TO i1 i2 l1 l2 xs ys := zn.kept fun b o e => Heap.get?_push_of_some _ e
  refine wpAny_call (codeAny_of_tree ?_)
  have e : (model prog w).den (Code.call (Value.type "list") { pos := [Value.ref z] }) = denote table (Code.call (Value.type "list") { pos := [Value.ref z] }) := rfl
  rw [e]
  unfold denote
  dsimp only
  unfold callAny
  dsimp only
  refine wpAny_pure ⟨Code.quiet_builtin _ (by decide +kernel), codeAny_builtin F.entry_type_call ?_⟩
  unfold Builtin.«type.__call__»
  dsimp only
  repeat (first
    | (refine wpAny_of_eq (F.typeCall_list_1 _) ?_)
    | (refine wpAny_of_eq F.called_list.made ?_)
    | (refine wpAny_call (code_list_new _ ?_))
    | (refine wpAny_isInstance (T := "list") ⟨_, Heap.get?_push_size _ rfl, rfl⟩ F.called_list.sub ?_)
    | (refine wpAny_callSpecial?_slot (T := "list") ⟨_, Heap.get?_push_size _ rfl, rfl⟩ F.called_list.init (wpAny_call (init_zip (A := A.under _) hA ap hl n0 hs zn2 ne (Heap.get?_push_size _ rfl) (fun s' acc c as he old h3 ha hn zo => ?_))))
    | wp_step)
  refine fin s' acc c as he (fun b o b1 b2 b3 b4 h => old b o b1 b2 b3 b4 (lt b o h) (Heap.get?_push_of_some _ h)) h3 ha hn ?_
  have sz : (s.heap.push { cls := .type "list", data := .seq #[] }).objs.size = s.heap.objs.size + 1 := Heap.size_push _ _
  exact sz ▸ zo
end
end Rs
/-! many new objects laid at once -/
open PySem PySem.Spec PyProof.Rows L2
namespace Rs
/-- a heap's first n objects -/
def cutH (h : Heap) (n : Nat) : Heap := { h with objs := h.objs.extract 0 n }
theorem cutH_at {h : Heap} {n : Nat} {b : Nat} (lt : b < n) : (cutH h n).objs[b]? = h.objs[b]? := by
  unfold cutH
  dsimp only
  rw [Array.getElem?_extract]
  split
  · rw [Nat.zero_add]
  · rw [Array.getElem?_eq_none (by omega)]
theorem cutH_get {h : Heap} {n : Nat} {b : Addr} (lt : b < n) : (cutH h n).get? b = h.get? b := by
  unfold Heap.get?
  rw [cutH_at lt]
theorem cutH_size {h : Heap} {n : Nat} (le : n ≤ h.objs.size) : (cutH h n).objs.size = n := by
  unfold cutH
  simp
  omega
theorem cutH_lt {h : Heap} {n : Nat} {b : Addr} {u : Obj} (le : n ≤ h.objs.size) (e : (cutH h n).get? b = some u) : b < n := by
  have := Heap.lt_size e
  rw [cutH_size le] at this
  exact this
theorem lay {X : Cx} {pins : List (Addr × Obj)} {σ : L2.St} {h' : Heap} {g : Array GenState} {dr : Drawn} {tk : Nat} {os : OsState} : ∀ (ts : List (Addr × HO)) (H : Hp) (n : Nat), Inv X pins σ H { heap := cutH h' n, gens := g, drawn := dr, toks := tk, os := os } → n ≤ h'.objs.size →
    (∀ p ∈ ts, n ≤ p.1 ∧ p.1 < h'.objs.size) → ts.Pairwise (fun p q => p.1 < q.1) → (∀ p ∈ ts, ∀ H h, h.get? p.1 = h'.get? p.1 → ObjOk X.prog X.w H h p.1 p.2) →
    Inv X pins σ (ts.foldl (fun H p => upd H p.1 p.2) H) { heap := h', gens := g, drawn := dr, toks := tk, os := os }
  | [], H, n, I, le, _, _, _ => I.kept (t' := tk) fun b u e => by
    have lt := cutH_lt le e
    rw [cutH_get lt] at e
    exact e
  | p :: ts, H, n, I, le, hp, rise, ok => by
    have p0 := hp p (List.mem_cons_self ..)
    have pn : p.1 + 1 ≤ h'.objs.size := p0.2
    have rr := List.pairwise_cons.mp rise
    refine lay ts (upd H p.1 p.2) (p.1 + 1) (I.laid (h' := cutH h' (p.1 + 1)) (t' := tk) (fun b u e => ?_) ?_ (ok p (List.mem_cons_self ..) _ _ (cutH_get (Nat.lt_succ_self _)))) pn (fun q hq => ⟨rr.1 q hq, (hp q (List.mem_cons_of_mem _ hq)).2⟩) rr.2 fun q hq => ok q (List.mem_cons_of_mem _ hq)
    · have lt := cutH_lt le e
      rw [cutH_get lt] at e
      rw [cutH_get (show b < p.1 + 1 from Nat.lt_succ_of_lt (Nat.lt_of_lt_of_le lt p0.1))]
      exact e
    · show (cutH h' n).objs.size ≤ p.1
      rw [cutH_size le]
      exact p0.1
theorem laid_many {X : Cx} {pins : List (Addr × Obj)} {σ : L2.St} {H : Hp} {s : Shared} {h' : Heap} {tk : Nat} {ts : List (Addr × HO)} (I : Inv X pins σ H s) (k : ∀ b u, s.heap.get? b = some u → h'.get? b = some u) (sz : s.heap.objs.size ≤ h'.objs.size)
    (hp : ∀ p ∈ ts, s.heap.objs.size ≤ p.1 ∧ p.1 < h'.objs.size) (rise : ts.Pairwise (fun p q => p.1 < q.1)) (ok : ∀ p ∈ ts, ∀ H h, h.get? p.1 = h'.get? p.1 → ObjOk X.prog X.w H h p.1 p.2) :
    Inv X pins σ (ts.foldl (fun H p => upd H p.1 p.2) H) { heap := h', gens := s.gens, drawn := s.drawn, toks := tk, os := s.os } :=
  lay ts H s.heap.objs.size (I.kept (h' := cutH h' s.heap.objs.size) (t' := tk) fun b u e => by
    rw [cutH_get (Heap.lt_size e)]
    exact k b u e) sz hp rise ok
theorem laid_at {ts : List (Addr × HO)} : ∀ {H : Hp} {a : Addr}, (∀ p ∈ ts, p.1 ≠ a) → ts.foldl (fun H p => upd H p.1 p.2) H a = H a := by
  induction ts with
  | nil => exact fun _ => rfl
  | cons p ts ih =>
    intro H a h
    rw [List.foldl_cons, ih fun q hq => h q (List.mem_cons_of_mem _ hq)]
    exact upd_ne (h p (List.mem_cons_self ..)).symm
theorem laid_in {ts : List (Addr × HO)} : ∀ {H : Hp} {p : Addr × HO}, ts.Pairwise (fun p q => p.1 < q.1) → p ∈ ts → ts.foldl (fun H p => upd H p.1 p.2) H p.1 = some p.2 := by
  induction ts with
  | nil => exact fun _ h => nomatch h
  | cons q ts ih =>
    intro H p r h
    have rr := List.pairwise_cons.mp r
    rw [List.foldl_cons]
    rcases List.mem_cons.mp h with rfl | h
    · rw [laid_at fun q hq => Nat.ne_of_gt (rr.1 q hq)]
      exact upd_same
    · exact ih rr.2 h
end Rs
/-! the rule of list(zip(a, b)) -/
open PySem PySem.Spec PyProof.Rows L2
namespace Rs
def tListZip (ta : TA) : TE := fun σ H Q => ta σ H fun vs H1 => ∃ (a b : Addr) (xs ys : List V), vs = [.ref a, .ref b] ∧ H1 a = some (.lst xs) ∧ H1 b = some (.lst ys) ∧ xs.length = ys.length ∧ 0 < xs.length ∧
  ∀ (H' : Hp) (L : Addr) (ts : List Addr), Same H1 H' → H1 L = none → H' L = some (.lst (ts.map V.ref)) → ts.length = xs.length →
    (∀ (j : Nat) (t : Addr), ts[j]? = some t → H1 t = none ∧ ∃ x y, xs[j]? = some x ∧ ys[j]? = some y ∧ H' t = some (.tup [x, y])) → Q (.ref L) H'
theorem zip_pair {α β : Type} {as : List α} {bs : List β} {p : α × β} (h : p ∈ as.zip bs) : ∃ j : Nat, as[j]? = some p.1 ∧ bs[j]? = some p.2 := by
  obtain ⟨j, hj⟩ := List.getElem?_of_mem h
  rw [List.getElem?_zip_eq_some] at hj
  exact ⟨j, hj.1, hj.2⟩
theorem vals_refs : ∀ as : List Addr, Vals (as.map V.ref) (as.map Value.ref)
  | [] => .nil
  | _ :: as => .cons rfl (vals_refs as)
theorem lay_zip {X : Cx} {pins : List (Addr × Obj)} {σ : L2.St} {H : Hp} {s s' : Shared} {L : Addr} {acc : Array Value} {c : Nat} {as : List Addr} {xs ys : List V} {us vs : List Value} (I : Inv X pins σ H s) (he : s'.gens = s.gens ∧ s'.drawn = s.drawn ∧ s'.os = s.os)
    (k : ∀ b u, s.heap.get? b = some u → s'.heap.get? b = some u) (hL : s.heap.objs.size ≤ L) (gL : s'.heap.get? L = some { cls := .type "list", data := .seq acc c }) (ea : acc.toList = as.map Value.ref) (el : as.length = us.length)
    (zo : ZOut s'.heap (L + 1) us.toArray vs.toArray as) (rx : Vals xs us) (ry : Vals ys vs) (l1 : us.length ≤ sizeLine) (l2 : us.length = vs.length) :
    ∃ H', Inv X pins σ H' s' ∧ Same H H' ∧ H L = none ∧ H' L = some (.lst (as.map V.ref)) ∧ ∀ (j : Nat) (t : Addr), as[j]? = some t → H t = none ∧ ∃ x y, xs[j]? = some x ∧ ys[j]? = some y ∧ H' t = some (.tup [x, y]) := by
  have lx := rx.length
  have ly := ry.length
  have szL := Heap.lt_size gL
  have sa : ∀ a ∈ as, L < a := fun a ha => zo.above a ha
  have sb : ∀ a ∈ as, a < s'.heap.objs.size := fun a ha => by
    obtain ⟨j, hj⟩ := List.getElem?_of_mem ha
    obtain ⟨_, _, _, _, e⟩ := zo.pairs j a hj
    exact Heap.lt_size e
  have fresh : ∀ b, s.heap.objs.size ≤ b → H b = none := fun b hb => I.hok.fresh hb
  have pl : (List.zipWith (fun x y => HO.tup [x, y]) xs ys).length = as.length := by
    rw [List.length_zipWith]
    omega
  have mf : (as.zip (List.zipWith (fun x y => HO.tup [x, y]) xs ys)).map Prod.fst = as := List.map_fst_zip (by omega)
  have rise : ((L, HO.lst (as.map V.ref)) :: as.zip (List.zipWith (fun x y => HO.tup [x, y]) xs ys)).Pairwise (fun p q => p.1 < q.1) := by
    refine List.pairwise_cons.mpr ⟨fun q hq => sa _ ?_, ?_⟩
    · rw [← mf]
      exact List.mem_map_of_mem hq
    · have := zo.rise
      rw [← mf, List.pairwise_map] at this
      exact this
  have J := laid_many (h' := s'.heap) (tk := s'.toks) (ts := (L, HO.lst (as.map V.ref)) :: as.zip (List.zipWith (fun x y => HO.tup [x, y]) xs ys)) I k (Nat.le_of_lt (Nat.lt_of_le_of_lt hL szL)) (fun p hp => ?_) rise (fun p hp H h e => ?_)
  · refine ⟨List.foldl (fun (H : Hp) (p : Addr × HO) => upd H p.1 p.2) H ((L, HO.lst (as.map V.ref)) :: as.zip (List.zipWith (fun x y => HO.tup [x, y]) xs ys)), ?_, ?_, fresh L hL, laid_in rise (List.mem_cons_self ..), fun j t ht => ?_⟩
    · obtain ⟨e1, e2, e3⟩ := he
      rw [← e1, ← e2, ← e3] at J
      exact J
    · intro b o hb
      rw [laid_at]
      · exact hb
      · intro p hp c
        have : H b = none := fresh b ?_
        · rw [this] at hb; cases hb
        · subst c
          rcases List.mem_cons.mp hp with rfl | hp
          · exact hL
          · obtain ⟨j, hj, _⟩ := zip_pair hp
            exact Nat.le_of_lt (Nat.lt_of_le_of_lt hL (sa _ (List.mem_of_getElem? hj)))
    · have lt : j < as.length := (List.getElem?_eq_some_iff.mp ht).1
      have ex : xs[j]? = some xs[j] := List.getElem?_eq_getElem (by omega)
      have ey : ys[j]? = some ys[j] := List.getElem?_eq_getElem (by omega)
      refine ⟨fresh t (Nat.le_of_lt (Nat.lt_of_le_of_lt hL (sa _ (List.mem_of_getElem? ht)))), _, _, ex, ey, ?_⟩
      refine laid_in (p := (t, HO.tup [xs[j], ys[j]])) rise (List.mem_cons_of_mem _ (List.mem_of_getElem? (i := j) ?_))
      rw [List.getElem?_zip_eq_some]
      refine ⟨ht, ?_⟩
      rw [List.getElem?_zipWith, ex, ey]
  · rcases List.mem_cons.mp hp with rfl | hp
    · exact ⟨hL, szL⟩
    · obtain ⟨j, hj, _⟩ := zip_pair hp
      have := List.mem_of_getElem? hj
      exact ⟨Nat.le_of_lt (Nat.lt_of_le_of_lt hL (sa _ this)), sb _ this⟩
  · rcases List.mem_cons.mp hp with rfl | hp
    · refine ⟨by rw [List.length_map]; omega, as.map Value.ref, c, vals_refs as, ?_⟩
      rw [e]
      show s'.heap.get? L = _
      rw [gL, ← ea]
    · obtain ⟨j, hj, h2⟩ := zip_pair hp
      obtain ⟨u, v, eu, ev, et⟩ := zo.pairs j p.1 hj
      have lt : j < as.length := (List.getElem?_eq_some_iff.mp hj).1
      have ex : xs[j]? = some xs[j] := List.getElem?_eq_getElem (by omega)
      have ey : ys[j]? = some ys[j] := List.getElem?_eq_getElem (by omega)
      rw [List.getElem?_zipWith, ex, ey] at h2
      injection h2 with h2
      rw [← h2]
      obtain ⟨u', hu, ru⟩ := rx.get ex
      obtain ⟨v', hv, rv⟩ := ry.get ey
      rw [List.getElem?_toArray] at eu ev
      rw [hu] at eu
      rw [hv] at ev
      injection eu with eu
      injection ev with ev
      subst eu
      subst ev
      exact ⟨by show 2 ≤ sizeLine; decide, [u', v'], .cons ru (.cons rv .nil), ⟨_, e.trans et, rfl, _, rfl⟩⟩
theorem apart {n a b : Nat} (ha : a < n) (hb : b < n) : ZipApart (n + 4) (n + 2) (n + 3) n (n + 1) a b := by
  constructor <;> (intro e; have e' : (_ : Nat) = _ := e; omega)
theorem ne4 {n b : Nat} (h : b < n) : b ≠ n + 4 ∧ b ≠ n + 3 ∧ b ≠ n ∧ b ≠ n + 1 := by omega
theorem pe_listZip {X : Cx} {e e2 : Expr} {ta : TA} {p p2 zpos pos : Pos} (hc : X.calm = true) (hg : Gl X "list") (hm : X.mg "list" = none) (hz : Gl X "zip") (hmz : X.mg "zip" = none) (ha : PA X [e, e2] ta)
    (hs : starEach [e, e2] X.env = (false, eval e X.env) :: starEach [e2] X.env := by rfl) (hs2 : ((backTo zpos (starEach [e2] X.env)).any fun x => x.1) = false := by rfl)
    (hs3 : starEach [.Call (.Name "zip" p2) [e, e2] [] zpos] X.env = (false, eval (.Call (.Name "zip" p2) [e, e2] [] zpos) X.env) :: starEach [] X.env := by rfl) :
    PE X (.Call (.Name "list" p) [.Call (.Name "zip" p2) [e, e2] [] zpos] [] pos) (tListZip ta) := by
  refine ⟨fun pins s σ H Q I hyp => Call_ (ld_blt I hg hm boot_list (callWith_type1 (spliced_more (Call_ (ld_blt I hz hmz boot_zip (callWith_type1 (thn (ha.run zpos pins s σ H _ I hyp) fun us s1 res => ?_) hs hs2))) hs3) hs3 rfl))⟩
  obtain ⟨vs, H1, I1, r1, a, b, xs, ys, rfl, hA, hB, hl, n0, q⟩ := res
  cases r1 with
  | cons r rr =>
    cases rr with
    | cons r2 rr =>
      cases rr
      cases r
      cases r2
      obtain ⟨us, ru, pa, la⟩ := I1.list (SqL.of hA)
      obtain ⟨vs, rv, pb, lb⟩ := I1.list (SqL.of hB)
      have lu := ru.length
      have lv := rv.length
      refine call_zip_2 pa.isList pb.isList (fun h' z ti to j1 j2 sz kp => ?_)
      have la' : a < s1.heap.objs.size := by
        obtain ⟨o, e, _⟩ := pa.isList
        exact Heap.lt_size e
      have lb' : b < s1.heap.objs.size := by
        obtain ⟨o, e, _⟩ := pb.isList
        exact Heap.lt_size e
      have kl : ∀ {l : Addr} {ws : Array Value}, s1.heap.IsList l ws → h'.IsList l ws := fun q => by
        obtain ⟨o, e, r⟩ := q
        exact ⟨o, kp _ _ e, r⟩
      have es : us.toArray.size = vs.toArray.size := by
        show us.length = vs.length
        omega
      refine spliced_none (call_list_zip (xs := us.toArray) (ys := vs.toArray) (I1.ok.hd hc) (apart la' lb') es (show 0 < us.length by omega) (show us.length ≤ sizeLine by omega) ⟨z, ti, to, j1, j2, kl pa.isList, kl pb.isList⟩ (fun s' acc c as he old hL hacc hn zo => ?_))
      have sz' : h'.objs.size = s1.heap.objs.size + 5 := sz
      obtain ⟨H', J, sm, nL, hH, pr⟩ := lay_zip (L := h'.objs.size) (us := us) (vs := vs) I1 he (fun b' u e' => by
        have lt := Heap.lt_size e'
        exact old b' u (ne4 lt).1 (ne4 lt).2.1 (ne4 lt).2.2.1 (ne4 lt).2.2.2 (kp b' u e')) (by rw [sz']; omega) hL hacc hn zo ru rv (show us.length ≤ sizeLine by omega) (show us.length = vs.length by omega)
      exact ⟨.ref h'.objs.size, H', J, rfl, q H' h'.objs.size as sm nL hH (hn.trans (show us.length = xs.length by omega)) pr⟩
end Rs
/-! math.lcm; v in a tuple of data. -/
namespace Rs
open PySem PySem.Spec PyProof.Rows L2
section
variable {X : Cx}
def rLcm : List V → Hp → VK → Prop := fun vs H Q => ∃ a b : Int, vs = [.int a, .int b] ∧ a.natAbs < 2 ^ 64 ∧ b.natAbs < 2 ^ 64 ∧ Q (.int ((Nat.lcm a.natAbs b.natAbs : Nat) : Int)) H
theorem cr_lcm : CallR X (.builtin "math.lcm") rLcm := by
  intro pins s σ H vs us Q I r h
  obtain ⟨a, b, rfl, ha, hb, q⟩ := h
  obtain ⟨t, u, rfl⟩ := Vals.int2 r
  exact PySem.W.mc_lcm ha hb fun _ => ⟨.int _, H, I.tok _, ⟨_, rfl⟩, q⟩
def rInTD (K : PySem.W.Frag) (neg : Bool) : R2 := fun x y H Q => ∃ d ds, Dp K H x d ∧ Dp K H y (.tuple ds) ∧ SeqAt.shaped d = true ∧ SeqAt.shaped (.tuple ds) = true ∧ Q (.bl (if neg then !(ds.any fun z => PyData.eqv z d) else ds.any fun z => PyData.eqv z d)) H
theorem op_inTD {K : PySem.W.Frag} (e : X.K = K) (hu : X.A.units + 65 < cLine) : OpR X (compareOp .In) (rInTD K false) := by
  subst e
  intro pins s σ H x y v u Q I rx ry h
  obtain ⟨d, ds, hd, he, sd, se, q⟩ := h
  obtain ⟨as, r1⟩ := Dp.reads I d x v hd rx
  obtain ⟨bs, r2⟩ := Dp.reads I (.tuple ds) y u he ry
  exact SeqAt.in_tuple_reads r2 r1 (SeqAt.canLay_of_shaped se) (SeqAt.canLay_of_shaped sd) (PyProof.Rows.room_in_shaped sd hu) ⟨.bl _, H, I, rfl, q⟩
end
/-- [e for x in l] over a list of any things, with a reading of e by its place -/
theorem lmapI {K : PySem.W.Frag} {L : Addr} {xs : List V} {te el : TE} {sl : Nat} {σ : L2.St} {H : Hp} {Q : VK} (f : Nat → V) (hte : ∀ R : VK, R (.ref L) H → te σ H R) (hL : H L = some (.lst xs)) (ln : xs.length ≤ 3000)
    (hel : ∀ (j : Nat) (x : V), xs[j]? = some x → ∀ (Hc : Hp) (R : VK), Same H Hc → (∀ Hd, Same Hc Hd → R (f j) Hd) → el ((wipe σ [sl]).set sl (some x)) Hc R)
    (k : ∀ D H', H D = none → Same H H' → H' D = some (.lst ((List.range xs.length).map f)) → Q (.ref D) H') : tLc (iList K te) (gName sl) tYes el [sl] σ H Q := by
  refine hte _ ⟨L, rfl, ⟨_, SqL.of hL⟩, fun D hD => lc_it walk_list (fun i Hc => Hc D = some (.lst ((List.range i).map f)) ∧ Same H Hc) ⟨upd_same, same_new hD⟩ (fun i Hc _ hR => hR.2.seq (SqL.of hL)) (fun j x Hc H' hj hR hy => ?_) (fun Hc hR => k D Hc hD hR.2 hR.1)⟩
  obtain ⟨rfl, hx⟩ := hy
  obtain ⟨hDc, sc⟩ := hR
  refine ⟨by simp [wipe, List.set_set], ?_⟩
  dsimp only [tYes]
  rw [if_pos rfl]
  have lt : j < xs.length := (List.getElem?_eq_some_iff.mp hx).1
  refine hel j x hx _ _ sc fun Hd sd => ?_
  refine ⟨_, sd _ _ hDc, ?_, ?_, same_lst (sc.trans sd) hD⟩
  · rw [List.length_map, List.length_range]
    exact szL2 (by omega)
  · rw [upd_same, List.range_succ, List.map_append]
    rfl
theorem val_go {te : TE} {v : V} {σ : L2.St} {H : Hp} {Q : VK} (h : ∀ R : VK, R v H → te σ H R) (k : Q v H) : te σ H Q := h Q k
end Rs
/-! str(o) by an own __str__; texts of ints separated by blanks, and what such a text tells. -/
namespace Rs
open PySem PySem.Spec PyProof.Rows L2
section
variable {X : Cx} {CX : CXT} {C g : Addr} {n : Nat} {sp : Sp} {E : XK}
def rStrO (C : Addr) (sp : Sp) (E : XK) : List V → Hp → VK → Prop := fun xs H Q => ∃ a dx fs, xs = [.ref a] ∧ H a = some (.ins C dx fs) ∧ sp [.ref a] H (fun z H' => ∃ y, z = .str y ∧ Q (.str y) H') E
theorem call_strO (M : Meth X.K C "__str__" g) (F : FnR X.prog X.w X.K X.mg X.base CX n g sp) (hr : Room (n + 2) X.A) (hx : Passes CX X E) : CallR X (.type "str") (rStrO C sp E) := by
  intro pins s σ H xs us Q I r h
  obtain ⟨a, dx, fs, rfl, ha, q⟩ := h
  cases r with
  | cons r1 rr =>
    cases rr
    cases (show _ = Value.ref a from r1)
    obtain ⟨ox, od, J⟩ := ins_at I ha
    have hr1 : Room (n + 1) X.A.in1 := Room.in1 hr
    have hr2 : Room n X.A.in1.in1 := Room.in1 hr1
    refine PySem.W.kso_call (by have := hr2.un; omega) I.kIn J M.at_ M.fn ?_
    refine wpAny_mono (wpAny_call (SlX.run_at (us := [.ref a]) (ws := [.ref a]) F hr2 I.env0.in1.in1 hx I (.cons rfl .nil) q)) (fun w s' z => ?_) fun _ _ x => x
    obtain ⟨z', H', I', rz, y, ez, qz⟩ := z
    subst ez
    obtain ⟨t, rfl⟩ := rz
    exact ⟨.str y, H', I', ⟨t, rfl⟩, qz⟩
end
/-! ### texts -/
def nS (n : Int) : Str := Str.ofString (toString n)
def blank : Str := Str.ofString " "
def spaced (ns : List Int) : Str := Txt.join blank (ns.map nS)
theorem nS_free (n : Int) : 32 ∉ TL.tl (nS n) := fun h => (intText_free_32 n).mp h
theorem nS_len {n : Int} (h0 : 0 ≤ n) (h1 : n < 10 ^ 9) : (nS n).length ≤ 10 := by
  have e := PySem.int_text_length_le10 (a := n) (k := 9) (by decide) (by omega)
  unfold nS
  rw [PySem.ofString_length]
  omega
theorem nS_num {n : Int} (h0 : 0 ≤ n) (h1 : n < 10 ^ 9) : PySem.intText? (nS n) = some n := PySem.W.KIN.num_reads h0 (by omega)
theorem nS_inj {n m : Int} (h0 : 0 ≤ n) (h1 : n < 10 ^ 9) (g0 : 0 ≤ m) (g1 : m < 10 ^ 9) (e : nS n = nS m) : n = m := by
  have a := nS_num h0 h1
  rw [e, nS_num g0 g1] at a
  injection a with a
  exact a.symm
theorem nS_map_inj : ∀ {ns ms : List Int}, (∀ n ∈ ns, 0 ≤ n ∧ n < 10 ^ 9) → (∀ n ∈ ms, 0 ≤ n ∧ n < 10 ^ 9) → ns.map nS = ms.map nS → ns = ms
  | [], [], _, _, _ => rfl
  | [], _ :: _, _, _, h => by simp at h
  | _ :: _, [], _, _, h => by simp at h
  | n :: ns, m :: ms, hn, hm, h => by
    rw [List.map_cons, List.map_cons] at h
    injection h with h1 h2
    have a := hn n List.mem_cons_self
    have b := hm m List.mem_cons_self
    rw [nS_inj a.1 a.2 b.1 b.2 h1, nS_map_inj (fun x hx => hn x (List.mem_cons_of_mem _ hx)) (fun x hx => hm x (List.mem_cons_of_mem _ hx)) h2]
theorem nS_not {n : Int} {w : Str} (h0 : 0 ≤ n) (h1 : n < 10 ^ 9) (hw : PySem.intText? w = none) : nS n ≠ w := fun e => by
  have a := nS_num h0 h1
  rw [e, hw] at a
  cases a
theorem join_append {y : Str} : ∀ {a b : List Str}, a ≠ [] → b ≠ [] → Str.join y (a ++ b) = Str.join y a ++ (y ++ Str.join y b)
  | [], _, h, _ => absurd rfl h
  | [x], [], _, h => absurd rfl h
  | [x], z :: b, _, _ => by
    show x ++ y ++ Str.join y (z :: b) = x ++ (y ++ Str.join y (z :: b))
    rw [Str.append_assoc]
  | x :: z :: a, b, _, hb => by
    show x ++ y ++ Str.join y (z :: a ++ b) = x ++ y ++ Str.join y (z :: a) ++ (y ++ Str.join y b)
    rw [join_append (by simp) hb, Str.append_assoc (x ++ y)]
def front (few : List Int) : Str := if few = [] then Str.ofString "-" else spaced few
def calText (few : List Int) (e p : Int) (rests : List Int) : Str :=
  if rests = [] then front few else front few ++ (Str.ofString " from " ++ (nS e ++ (Str.ofString " of " ++ (nS p ++ (Str.ofString ": " ++ spaced rests)))))
def frontW (few : List Int) : List Str := if few = [] then [Str.ofString "-"] else few.map nS
def tailW (e p : Int) (rests : List Int) : List Str := if rests = [] then [] else Str.ofString "from" :: nS e :: Str.ofString "of" :: (nS p ++ Str.ofString ":") :: rests.map nS
theorem frontW_ne {few : List Int} : frontW few ≠ [] := by
  unfold frontW
  split
  · simp
  · rename_i h
    simpa using h
theorem front_join {few : List Int} : front few = Str.join blank (frontW few) := by
  unfold front frontW
  split
  · rfl
  · exact TL.join_eq _ _
theorem calText_join {few rests : List Int} {e p : Int} : calText few e p rests = Str.join blank (frontW few ++ tailW e p rests) := by
  unfold calText tailW
  split
  · rw [List.append_nil, front_join]
  · rename_i h
    rw [join_append frontW_ne (by simp), ← front_join]
    congr 1
    have e1 : Str.ofString " from " = blank ++ (Str.ofString "from" ++ blank) := by decide
    have e2 : Str.ofString " of " = blank ++ (Str.ofString "of" ++ blank) := by decide
    have e3 : Str.ofString ": " = Str.ofString ":" ++ blank := by decide
    obtain ⟨r, t, rfl⟩ := List.exists_cons_of_ne_nil h
    rw [e1, e2, e3]
    have e4 : spaced (r :: t) = Str.join blank (nS r :: t.map nS) := TL.join_eq _ _
    rw [e4]
    show _ = blank ++ (Str.ofString "from" ++ blank ++ (nS e ++ blank ++ (Str.ofString "of" ++ blank ++ ((nS p ++ Str.ofString ":") ++ blank ++ Str.join blank (nS r :: t.map nS)))))
    simp only [Str.append_assoc]
theorem words_split {w : Str} : ∀ {F G X Y : List Str}, (∀ a ∈ F, a ≠ w) → (∀ a ∈ G, a ≠ w) → (X = [] ∨ ∃ t, X = w :: t) → (Y = [] ∨ ∃ t, Y = w :: t) → F ++ X = G ++ Y → F = G ∧ X = Y
  | [], [], _, _, _, _, _, _, e => ⟨rfl, e⟩
  | [], g :: G, X, Y, _, hG, hX, _, e => by
    rcases hX with rfl | ⟨t, rfl⟩
    · simp at e
    · simp only [List.nil_append, List.cons_append] at e
      injection e with e1 _
      exact absurd e1.symm (hG g List.mem_cons_self)
  | f :: F, [], X, Y, hF, _, _, hY, e => by
    rcases hY with rfl | ⟨t, rfl⟩
    · simp at e
    · simp only [List.nil_append, List.cons_append] at e
      injection e with e1 _
      exact absurd e1 (hF f List.mem_cons_self)
  | f :: F, g :: G, X, Y, hF, hG, hX, hY, e => by
    simp only [List.cons_append] at e
    injection e with e1 e2
    obtain ⟨a, b⟩ := words_split (fun x hx => hF x (List.mem_cons_of_mem _ hx)) (fun x hx => hG x (List.mem_cons_of_mem _ hx)) hX hY e2
    rw [e1, a]
    exact ⟨rfl, b⟩
def Small (ns : List Int) : Prop := ∀ n ∈ ns, 0 ≤ n ∧ n < 10 ^ 9
theorem front_free {few : List Int} : ∀ a ∈ frontW few, 32 ∉ TL.tl a := by
  unfold frontW
  split
  · intro a ha
    rw [List.mem_singleton] at ha
    subst ha
    decide
  · intro a ha
    obtain ⟨n, _, rfl⟩ := List.mem_map.mp ha
    exact nS_free n
theorem tail_free {e p : Int} {rests : List Int} : ∀ a ∈ tailW e p rests, 32 ∉ TL.tl a := by
  unfold tailW
  split
  · intro a ha
    cases ha
  · intro a ha
    rcases List.mem_cons.mp ha with rfl | ha
    · decide
    rcases List.mem_cons.mp ha with rfl | ha
    · exact nS_free e
    rcases List.mem_cons.mp ha with rfl | ha
    · decide
    rcases List.mem_cons.mp ha with rfl | ha
    · rw [TL.tl_append]
      intro h
      rcases List.mem_append.mp h with h | h
      · exact nS_free p h
      · revert h
        decide
    · obtain ⟨n, _, rfl⟩ := List.mem_map.mp ha
      exact nS_free n
theorem front_not {few : List Int} (h : Small few) : ∀ a ∈ frontW few, a ≠ Str.ofString "from" := by
  unfold frontW
  split
  · intro a ha
    rw [List.mem_singleton] at ha
    subst ha
    decide
  · intro a ha
    obtain ⟨n, hn, rfl⟩ := List.mem_map.mp ha
    exact nS_not (h n hn).1 (h n hn).2 (by decide +kernel)
theorem tail_head {e p : Int} {rests : List Int} : tailW e p rests = [] ∨ ∃ t, tailW e p rests = Str.ofString "from" :: t := by
  unfold tailW
  split
  · exact .inl rfl
  · exact .inr ⟨_, rfl⟩
theorem front_inj {a b : List Int} (ha : Small a) (hb : Small b) (e : frontW a = frontW b) : a = b := by
  unfold frontW at e
  by_cases h1 : a = []
  · by_cases h2 : b = []
    · rw [h1, h2]
    · rw [if_pos h1, if_neg h2] at e
      obtain ⟨n, t, rfl⟩ := List.exists_cons_of_ne_nil h2
      rw [List.map_cons] at e
      injection e with e1 _
      exact absurd e1.symm (nS_not (hb n List.mem_cons_self).1 (hb n List.mem_cons_self).2 (by decide +kernel))
  · by_cases h2 : b = []
    · rw [if_pos h2, if_neg h1] at e
      obtain ⟨n, t, rfl⟩ := List.exists_cons_of_ne_nil h1
      rw [List.map_cons] at e
      injection e with e1 _
      exact absurd e1 (nS_not (ha n List.mem_cons_self).1 (ha n List.mem_cons_self).2 (by decide +kernel))
    · rw [if_neg h1, if_neg h2] at e
      exact nS_map_inj ha hb e
/-- what a calendar's text tells -/
theorem calText_inj {f1 f2 r1 r2 : List Int} {e1 e2 p1 p2 : Int} (hf1 : Small f1) (hf2 : Small f2) (hr1 : Small r1) (hr2 : Small r2) (he1 : 0 ≤ e1 ∧ e1 < 10 ^ 9) (he2 : 0 ≤ e2 ∧ e2 < 10 ^ 9) (hp1 : 0 ≤ p1 ∧ p1 < 10 ^ 9) (hp2 : 0 ≤ p2 ∧ p2 < 10 ^ 9)
    (h : calText f1 e1 p1 r1 = calText f2 e2 p2 r2) : f1 = f2 ∧ r1 = r2 ∧ (r1 ≠ [] → e1 = e2 ∧ p1 = p2) := by
  rw [calText_join, calText_join, ← TL.join_eq, ← TL.join_eq] at h
  have sp : ∀ {f r : List Int} {e p : Int}, Txt.split (Txt.join blank (frontW f ++ tailW e p r)) blank = frontW f ++ tailW e p r := fun {f r e p} =>
    TL.split_join (s := 32) (S := []) (by decide) (by decide +kernel) (fun z => frontW_ne (List.append_eq_nil_iff.mp z).1) fun a ha => by
      rcases List.mem_append.mp ha with ha | ha
      · exact front_free a ha
      · exact tail_free a ha
  have hw : Txt.split _ blank = Txt.split _ blank := congrArg (fun z => Txt.split z blank) h
  rw [sp, sp] at hw
  obtain ⟨a, b⟩ := words_split (front_not hf1) (front_not hf2) tail_head tail_head hw
  refine ⟨front_inj hf1 hf2 a, ?_⟩
  unfold tailW at b
  by_cases h1 : r1 = []
  · by_cases h2 : r2 = []
    · rw [h1, h2]
      exact ⟨rfl, fun z => absurd rfl z⟩
    · rw [if_pos h1, if_neg h2] at b
      cases b
  · by_cases h2 : r2 = []
    · rw [if_neg h1, if_pos h2] at b
      cases b
    · rw [if_neg h1, if_neg h2] at b
      injection b with _ b
      injection b with b1 b
      injection b with _ b
      injection b with b2 b
      have b3 : nS p1 = nS p2 := by
        have := congrArg TL.tl b2
        rw [TL.tl_append, TL.tl_append] at this
        exact TL.ext_tl (List.append_cancel_right this)
      exact ⟨nS_map_inj hr1 hr2 b, fun _ => ⟨nS_inj he1.1 he1.2 he2.1 he2.2 b1, nS_inj hp1.1 hp1.2 hp2.1 hp2.2 b3⟩⟩
theorem sum_len {ns : List Int} (h : Small ns) : ((ns.map nS).map (·.length)).sum ≤ 10 * ns.length := by
  induction ns with
  | nil => simp
  | cons n ns ih =>
    have a := nS_len (h n List.mem_cons_self).1 (h n List.mem_cons_self).2
    have b := ih fun x hx => h x (List.mem_cons_of_mem _ hx)
    simp only [List.map_cons, List.sum_cons, List.length_cons] at b ⊢
    omega
theorem spaced_len {ns : List Int} (h : Small ns) : (spaced ns).length ≤ 11 * ns.length := by
  unfold spaced
  rw [TL.join_eq]
  induction ns with
  | nil => exact Nat.le_refl _
  | cons n ns ih =>
    have a := nS_len (h n List.mem_cons_self).1 (h n List.mem_cons_self).2
    have b := ih fun x hx => h x (List.mem_cons_of_mem _ hx)
    cases ns with
    | nil =>
      show (nS n).length ≤ _
      simp only [List.length_cons, List.length_nil]
      omega
    | cons m ns =>
      show (nS n ++ blank ++ Str.join blank (nS m :: ns.map nS)).length ≤ _
      rw [Str.length_append, Str.length_append]
      have c : blank.length = 1 := by decide
      have d : (Str.join blank (nS m :: ns.map nS)).length ≤ 11 * (m :: ns).length := b
      simp only [List.length_cons] at d ⊢
      omega
/-- a value, with the heap only grown -/
theorem val_same {te : TE} {v : V} {σ : L2.St} {H : Hp} {Q : VK} (h : ∀ R : VK, (∀ H', Same H H' → R v H') → te σ H R) (k : ∀ H', Same H H' → Q v H') : te σ H Q := h Q k
/-- [e for n in t] over a tuple of ints -/
theorem lmapT {K : PySem.W.Frag} {a : Addr} {ns : List Int} {te el : TE} {sl : Nat} {σ : L2.St} {H : Hp} {Q : VK} (f : Int → V) (hte : ∀ R : VK, R (.ref a) H → te σ H R) (hS : SqT K H a (ns.map V.int)) (ln : ns.length ≤ 3000)
    (hel : ∀ n ∈ ns, ∀ (Hc : Hp) (R : VK), Same H Hc → R (f n) Hc → el ((wipe σ [sl]).set sl (some (.int n))) Hc R)
    (k : ∀ D H', H D = none → Same H H' → H' D = some (.lst (ns.map f)) → Q (.ref D) H') : tLc (iTup K te) (gName sl) tYes el [sl] σ H Q := by
  refine hte _ ⟨a, rfl, ⟨_, hS⟩, fun D hD => lc_it walk_tup (fun i Hc => Hc D = some (.lst ((ns.take i).map f)) ∧ Same H Hc) ⟨upd_same, same_new hD⟩ (fun i Hc _ hR => (Fz.of_same hR.2).sqT hS) (fun j x Hc H' hj hR hy => ?_) (fun Hc hR => ?_)⟩
  · obtain ⟨rfl, hx⟩ := hy
    obtain ⟨hDc, sc⟩ := hR
    rw [List.getElem?_map] at hx
    obtain ⟨n, hn, rfl⟩ := Option.map_eq_some_iff.mp hx
    refine ⟨by simp [wipe, List.set_set], ?_⟩
    dsimp only [tYes]
    rw [if_pos rfl]
    refine hel n (List.mem_of_getElem? hn) _ _ sc ⟨_, hDc, ?_, ?_, same_lst sc hD⟩
    · rw [List.length_map, List.length_take]
      exact szL2 (by omega)
    · rw [upd_same, take_snoc hn, List.map_append]
      rfl
  · rw [List.length_map, List.take_length] at hR
    exact k D Hc hD hR.2 hR.1
end Rs
/-! comprehensions within comprehensions -/
namespace Rs
open PySem PySem.Spec PyProof.Rows L2
def relabelS (scope sc : Scope) : Scope :=
  { scope with names := scope.names.map fun (n, k) => if (k == .free && sc.kind == .function && sc.names.lookup n == some .cell) then (n, .cell) else (n, k) }
theorem relabel_eq (scope : Scope) (env : Env) : relabel scope env = relabelS scope env.scope := rfl
theorem pi_tupK {X : Cx} {K : PySem.W.Frag} {tg l : Expr} {tl : TE} (e : X.K = K) (hl : PE X l tl) : PI X tg l (iTup K tl) := by
  subst e
  exact pi_tup hl
theorem pi_listK {X : Cx} {K : PySem.W.Frag} {tg l : Expr} {tl : TE} (e : X.K = K) (hl : PE X l tl) : PI X tg l (iList K tl) := by
  subst e
  exact pi_list hl
/-- [n for n in range(hi) if t], where the test may make new objects -/
theorem lcondH {targ : TA} {tt : TT} {sl : Nat} {σ : L2.St} {H : Hp} {Q : VK} {hi : Int} (f : Int → Bool) (b3 : -1000 ≤ hi) (b4 : hi ≤ 3000) (harg : ∀ R : List V → Hp → Prop, R [.int hi] H → targ σ H R) (hl : sl < σ.length)
    (htt : ∀ n Hc (R : Bool → Hp → Prop), 0 ≤ n → n < hi → Same H Hc → (∀ Hd, Same Hc Hd → R (f n) Hd) → tt ((wipe σ [sl]).set sl (some (.int n))) Hc R)
    (k : ∀ D H', H D = none → Same H H' → H' D = some (.lst ((((List.range hi.toNat).map fun i : Nat => (i : Int)).filter f).map V.int)) → Q (.ref D) H') : tLc (iRng1 targ) (gName sl) tt (tVar sl) [sl] σ H Q := by
  refine harg _ ⟨hi, rfl, by omega, by omega, fun D hD => ?_⟩
  refine lc_range (lo := 0) (fun i Hc => Hc D = some (.lst ((((List.range i).map fun i : Nat => (i : Int)).filter f).map V.int)) ∧ Same H Hc) ⟨upd_same, same_new hD⟩ (fun i Hc hi' hP => ?_) (fun Hc hP => ?_)
  · obtain ⟨hDc, sc⟩ := hP
    rw [Int.zero_add]
    refine ⟨by simp [wipe, List.set_set], htt _ _ _ (by omega) (by omega) sc fun Hd sd => ?_⟩
    have z : ((List.range (i + 1)).map fun i : Nat => (i : Int)).filter f = ((List.range i).map fun i : Nat => (i : Int)).filter f ++ (if f (i : Int) = true then [(i : Int)] else []) := by
      rw [range_succ_map, List.filter_append, List.filter_cons, List.filter_nil]
    refine ifB (fun g => ?_) (fun g => ?_)
    · rw [if_pos g] at z
      refine ⟨.int (i : Nat), by simp [wipe, List.getElem?_set, hl], _, sd _ _ hDc, ?_, ?_, same_lst (sc.trans sd) hD⟩
      · rw [List.length_map]
        have := List.length_filter_le f ((List.range i).map fun i : Nat => (i : Int))
        rw [List.length_map, List.length_range] at this
        exact szL2 (by omega)
      · rw [upd_same, z, List.map_append]
        rfl
    · rw [if_neg (by rw [g]; exact Bool.false_ne_true), List.append_nil] at z
      rw [z]
      exact ⟨sd _ _ hDc, sc.trans sd⟩
  · exact k D Hc hD hP.2 hP.1
/-- [e for x in L if t], t never true -/
theorem lnone {K : PySem.W.Frag} {L : Addr} {xs : List V} {te el : TE} {tt : TT} {sl : Nat} {σ : L2.St} {H : Hp} {Q : VK} (hte : ∀ R : VK, (∀ H1, Same H H1 → H1 L = some (.lst xs) → R (.ref L) H1) → te σ H R)
    (htt : ∀ x ∈ xs, ∀ (Hc : Hp) (R : Bool → Hp → Prop), Same H Hc → (∀ Hd, Same Hc Hd → R false Hd) → tt ((wipe σ [sl]).set sl (some x)) Hc R)
    (k : ∀ D H', H D = none → Same H H' → H' D = some (.lst []) → Q (.ref D) H') : tLc (iList K te) (gName sl) tt el [sl] σ H Q := by
  refine hte _ fun H1 s1 hL => ⟨L, rfl, ⟨_, SqL.of hL⟩, fun D hD => lc_it walk_list (fun i Hc => Hc D = some (.lst []) ∧ Same H1 Hc) ⟨upd_same, same_new hD⟩ (fun i Hc _ hR => hR.2.seq (SqL.of hL)) (fun j x Hc H' hj hR hy => ?_) (fun Hc hR => ?_)⟩
  · obtain ⟨rfl, hx⟩ := hy
    obtain ⟨hDc, sc⟩ := hR
    exact ⟨by simp [wipe, List.set_set], htt x (List.mem_of_getElem? hx) _ _ (s1.trans sc) fun Hd sd => ifF rfl ⟨sd _ _ hDc, sc.trans sd⟩⟩
  · exact k D Hc (s1.free hD) (s1.trans hR.2) hR.1
/-- a statement that goes on in several ways, all of which hold C -/
theorem seq_k {t rest : TS} {D : Ends} {σ : L2.St} {H : Hp} (C : L2.St → Hp → Prop) (k : ∀ σ' H', C σ' H' → rest D σ' H') (h : ∀ R : L2.St → Hp → Prop, (∀ σ' H', C σ' H' → R σ' H') → t { D with nx := R } σ H) : tSeq t rest D σ H := h _ k
end Rs
/-! Lambdas with parameters, without captured names, handed to a def as values; the end of a law row with tables of code objects. -/
namespace Rs
open PySem PySem.Spec PyProof.Rows L2 LamX NdefX
abbrev lamFd (F : NF) (e : Expr) (pm ctv : Value) : FuncData := PySem.W.kla_fn F.name F.qual F.params e F.scope F.cl pm (.ref F.c) ctv
/-- the object at f is the lambda with the body e -/
def LamO (f : Addr) (F : NF) (e : Expr) : HO := .ext fun h => ∃ (od : Option Addr) (sl : Array (Option Value)) (pm ctv : Value), h.get? f = some (⟨.type "function", od, .func (lamFd F e pm ctv), sl⟩ : Obj)
theorem lamO_at {P : Program} {w : World} {H : Hp} {h : Heap} {f : Addr} {F : NF} {e : Expr} (hok : HOk P w H h) (z : H f = some (LamO f F e)) : ∃ (od : Option Addr) (sl : Array (Option Value)) (pm ctv : Value), h.get? f = some (⟨.type "function", od, .func (lamFd F e pm ctv), sl⟩ : Obj) := by
  obtain ⟨q, _, _⟩ := hok f _ z
  exact q
theorem clo_nil {cells : List (Str × Addr)} : ∀ {names : List (Str × NameKind)} {acc : List (Str × Addr)}, (∀ y ∈ names, y.2 ≠ .free) → cloFrom cells names acc = acc
  | [], _, _ => rfl
  | (n, k) :: r, acc, h => by
    have hk : (k == NameKind.free) = false := by
      have z := h (n, k) List.mem_cons_self
      cases k <;> first | rfl | exact absurd rfl z
    unfold cloFrom
    rw [hk]
    exact clo_nil fun y hy => h y (List.mem_cons_of_mem _ hy)
section
variable {X : Cx} {pins : List (Addr × Obj)} {σ : L2.St} {H : Hp} {s : Shared}
theorem inv_lam {F : NF} {e : Expr} {t' : Nat} {pm ctv : Value} (I : Inv X pins σ H s) :
    Inv X pins σ (upd H s.heap.objs.size (LamO s.heap.objs.size F e)) { s with heap := s.heap.push ({ cls := .type "function", data := .func (lamFd F e pm ctv) } : Obj), toks := t' } := by
  refine I.laid (a := s.heap.objs.size) (fun b u e => Heap.get?_push_of_some _ e) (Nat.le_refl _) ?_
  have z : (s.heap.push ({ cls := .type "function", data := .func (lamFd F e pm ctv) } : Obj)).get? s.heap.objs.size = some ({ cls := .type "function", data := .func (lamFd F e pm ctv) } : Obj) := Heap.get?_push_size _ rfl
  exact ⟨⟨_, _, pm, ctv, z⟩, ⟨_, z⟩, fun h1 h2 ⟨od, sl, p, t, z⟩ st => ⟨od, sl, p, t, st _ z⟩⟩
theorem lam_mk {T : List NTab} {nm : Nat → Nat → Str} {c P : Addr} {params : Arguments} {body : Expr} {scope : Scope} {pos : Pos} {E : Value → Shared → Prop} {Q : Value → Shared → Prop} (I : Inv X pins σ H s) (TB : TabB X.base X.mg c P) (hcode : X.env.code = .ref c)
    (here : (P, nm) ∈ T) (nmEq : nm pos.line pos.col = X.env.qual ++ "<lambda>") (one : ∀ p ∈ T, p.1 = P → p.2 = nm) (tabs0 : TabsN T H) (hdef : defaultsOf params X.env = ([], [])) (hfree : ∀ y ∈ scope.names, y.2 ≠ .free)
    (h : ∀ (f c' : Addr) (H1 : Hp) (sn : Shared), Inv X pins σ H1 sn → ExtN H H1 → (∀ b, H1 b = Option.none → H b = Option.none) → TabsN T H1 → H f = none → H1 f = some (LamO f ⟨"<lambda>", X.env.qual ++ "<lambda>", params, [], scope, [], c'⟩ body) → H1 c' = some (CodeO c' (X.env.qual ++ "<lambda>")) → Q (.ref f) sn) :
    wpAny (model X.prog X.w) X.A (eval (.Lambda params body scope pos) X.env) Q E s := by
  obtain ⟨held, atTab, good, told⟩ := (show TabN H P nm from tabs0 _ here)
  refine PySem.W.kla_eval hdef ?_
  have bltn : s.heap.BuiltinsAt X.mg P := TB.bm.keeps I.bk
  have tabIs : s.heap.get? P = some { cls := .none, data := .fields held } := I.hok P _ atTab
  have noClo : closureFor scope X.env = pure [] := by
    have z := closure_ok (scope := scope) (env := X.env) fun y hy e => absurd e (hfree y hy)
    rw [clo_nil hfree] at z
    exact z
  cases look : codeAmong pos held.toList with
  | none =>
    refine PySem.W.kla_makeFunction (mg := X.mg) (c := c) (P := P) (ps := held) noClo I.ok.glob (I.mod.glob.keeps I.bk) hcode (TB.code.keeps I.bk) tabIs good look TB.gP bltn fun c' ctv hh tk kept0 above below rec0 tabNow => ?_
    obtain ⟨cc, cob, flds, tk0, same2, isCode, data0, name0⟩ := rec0
    cases same2
    have newC : H c' = none := I.hok.fresh above
    have J1 := inv_table (t' := tk) (more := #[rawInt pos.line, rawInt pos.col, .ref c']) (h' := hh) I atTab (fun b o same e => kept0 b o same e) tabNow above ⟨cob, flds, tk0, isCode, data0, name0⟩
    have keepN : ExtN H (upd (upd H P (.tbl (held ++ #[rawInt pos.line, rawInt pos.col, .ref c']))) c' (CodeO c' (X.env.qual ++ "<lambda>"))) := fun b o e n => by
      rw [upd_ne (ne_of_none e newC), upd_ne (fun z => n held (Option.some.inj (e.symm.trans (by rw [z]; exact atTab))))]
      exact e
    have eqL : (held ++ #[rawInt pos.line, rawInt pos.col, .ref c']).toList = held.toList ++ [rawInt pos.line, rawInt pos.col, .ref c'] := by simp
    have tabs1 : TabsN T (upd (upd H P (.tbl (held ++ #[rawInt pos.line, rawInt pos.col, .ref c']))) c' (CodeO c' (X.env.qual ++ "<lambda>"))) := fun p hp => by
      by_cases same : p.1 = P
      · rw [one p hp same, same]
        refine ⟨_, by rw [upd_ne (ne_of_none atTab newC), upd_same], by rw [eqL]; exact PySem.TriplesOk_snoc _ _ _ _ good, fun p' cv hit => ?_⟩
        rw [eqL] at hit
        rcases among_app2 _ good hit with z | ⟨z, lineEq, colEq⟩
        · obtain ⟨cod, q1, same2⟩ := told p' cv z
          exact ⟨cod, q1, keepN _ _ same2 codeO_ne⟩
        · refine ⟨c', z, ?_⟩
          rw [← lineEq, ← colEq, nmEq]
          exact upd_same
      · obtain ⟨held', w1, w2, w3⟩ := tabs0 p hp
        refine ⟨held', by rw [upd_ne (ne_of_none w1 newC), upd_ne same]; exact w1, w2, fun p' cv hit => ?_⟩
        obtain ⟨cod, q1, same2⟩ := w3 p' cv hit
        exact ⟨cod, q1, keepN _ _ same2 codeO_ne⟩
    have newF := J1.hok.fresh (Nat.le_refl _)
    have J2 := inv_lam (F := ⟨"<lambda>", X.env.qual ++ "<lambda>", params, [], scope, [], c'⟩) (e := body) (t' := tk) (pm := (X.mg "__name__").getD .none) (ctv := ctv) J1
    refine h hh.objs.size c' _ _ J2 (fun b o e n => ?_) (fun b e => upd_none (upd_none (upd_none e))) (tabs1.ext fun b o e => ?_) (I.hok.fresh (Nat.le_trans above (Nat.le_of_lt below))) upd_same ?_
    · have q1 := keepN b o e n
      exact (upd_ne (ne_of_none q1 newF)).trans q1
    · exact (upd_ne (ne_of_none e newF)).trans e
    · exact (upd_ne (Nat.ne_of_lt below)).trans upd_same
  | some cv =>
    obtain ⟨c', e, known⟩ := told pos cv look
    subst e
    rw [nmEq] at known
    refine PySem.W.kla_makeFunctionHit (mg := X.mg) (c := c) (P := P) (ps := held) noClo I.ok.glob (I.mod.glob.keeps I.bk) hcode (TB.code.keeps I.bk) tabIs good look bltn fun ctv hh tk kept0 size0 => ?_
    have J1 : Inv X pins σ H { s with heap := hh, toks := tk } := I.kept kept0
    have newF : H hh.objs.size = none := J1.hok.fresh (Nat.le_refl _)
    have J2 := inv_lam (F := ⟨"<lambda>", X.env.qual ++ "<lambda>", params, [], scope, [], c'⟩) (e := body) (t' := tk) (pm := (X.mg "__name__").getD .none) (ctv := ctv) J1
    refine h hh.objs.size c' _ _ J2 (fun b o e n => ?_) (fun b e => upd_none e) (tabs0.ext fun b o e => ?_) newF upd_same ?_
    · exact (upd_ne (ne_of_none e newF)).trans e
    · exact (upd_ne (ne_of_none e newF)).trans e
    · exact (upd_ne (ne_of_none known newF)).trans known
end
/-- the reading of lambda ..: body -/
def tLm (T : List NTab) (q : Str) (params : Arguments) (scope : Scope) (body : Expr) : TE := fun σ H Q => TabsN T H ∧ ∀ (f c' : Addr) (H1 : Hp), ExtN H H1 → (∀ b, H1 b = Option.none → H b = Option.none) → TabsN T H1 → H f = none → H1 f = some (LamO f ⟨"<lambda>", q, params, [], scope, [], c'⟩ body) → H1 c' = some (CodeO c' q) → Q (.ref f) H1
theorem pe_lam {X : Cx} {T : List NTab} {nm : Nat → Nat → Str} {c P : Addr} {params : Arguments} {body : Expr} {scope : Scope} {pos : Pos} {q : Str} (TB : TabB X.base X.mg c P) (hcode : X.env.code = .ref c)
    (hm : (P, nm) ∈ T) (hn : nm pos.line pos.col = q) (hu : ∀ p ∈ T, p.1 = P → p.2 = nm) (hq : X.env.qual ++ "<lambda>" = q) (hdef : defaultsOf params X.env = ([], [])) (hfree : ∀ y ∈ scope.names, y.2 ≠ .free) :
    PE X (.Lambda params body scope pos) (tLm T q params scope body) := by
  subst hq
  refine ⟨fun pins s σ H Q I h => ?_⟩
  obtain ⟨hT, h⟩ := h
  exact lam_mk I TB hcode hm hn hu hT hdef hfree fun f c' H1 s' I1 eN nn T1 f0 f1 c1 => ⟨.ref f, H1, I1, rfl, h f c' H1 eN nn T1 f0 f1 c1⟩
/-! ### what a lambda promises -/
structure LOk (P : Program) (w : World) (K : PySem.W.Frag) (mg : Str → Option Value) (base : Heap) (CX : CXT) (k : Nat) (f : Addr) (F : NF) (e : Expr) (ps : List Str) (sp : Sp) : Prop where
  len : ∀ vs H Q E, sp vs H Q E → vs.length = ps.length
  run : ∀ (A : Around) (outer : List Env) (s : Shared) (H : Hp) (us : List Value) (vs : List V) (Q : VK) (E : XK), Room k A → Env0 P w K mg base A outer s H → H f = some (LamO f F e) → H F.c = some (CodeO F.c F.qual) →
    Vals vs us → sp vs H Q E → codeAny (model P w) A (.call (.ref f) ⟨us, []⟩) (CR CX outer P w H s Q E) s
section
variable {CX : CXT} {P : Program} {w : World} {K : PySem.W.Frag} {mg : Str → Option Value} {base : Heap} {N ps : List Str} {F : NF} {f : Addr} {e : Expr} {k : Nat} {sp : Sp}
theorem lok_of (S : NScope N ps [] F.scope) (hcl : F.cl = []) (hb : ∀ (pm ctv : Value) (us : List Value), us.length = ps.length → bindArgs (lamFd F e pm ctv) ⟨us, []⟩ = pure (ps.zip us)) (len : ∀ vs H Q E, sp vs H Q E → vs.length = ps.length)
    (hbody : ∀ (A : Around) (outer : List Env) (s : Shared) (H : Hp) (vs : List V) (Q : VK) (E : XK), Room k (A.deeper (envF F f s.heap.objs.size)) → sp vs H Q E →
      ∃ t, PE (ncx CX P w K mg base N F f A outer s H E) e t ∧ t (startF N vs []) H Q) :
    LOk P w K mg base CX (k + 1) f F e ps sp := by
  refine ⟨len, fun A outer s H us vs Q E room env atF atC rel pre => ?_⟩
  have many := len _ _ _ _ pre
  have free : s.heap.NoLimit := env.mod.nolimit.keeps fun b o e => (env.bs b o e).1
  obtain ⟨od, sl, pm, ctv, obj⟩ := lamO_at env.hok atF
  have C : CellsAt F.cl [] [] s.heap H := by
    rw [hcl]
    exact ⟨rfl, fun y c z => (nomatch z), fun x y c z => (nomatch z), fun i y z => (nomatch z)⟩
  refine PySem.W.kla_callFunE room.depth obj rfl S.co S.gen rfl (codeO_at env.hok atC) ?_
  rw [hb pm ctv us (by rw [← rel.length]; exact many)]
  refine wpAny_pure (wpAny_newFunctionEnv S.nocell (fun ⟨n, _⟩ mem => S.par n (List.of_mem_zip mem).1) (fun h₁ names but => ⟨free.fresh _ but, ?_⟩) S.kind)
  show codeAny _ _ (.expr e (envF F f s.heap.objs.size)) _ _
  have kept : ∀ b o, s.heap.get? b = some o → h₁.get? b = some o := fun b o e => but.extBut b o (Nat.ne_of_lt (Heap.lt_size e)) (Heap.get?_push_of_some _ e)
  obtain ⟨t, der, rd⟩ := hbody A outer s H vs Q E (room.deeper _) pre
  have I : Inv (ncx CX P w K mg base N F f A outer s H E) [] (startF N vs []) H { s with heap := h₁, toks := s.toks + (ps.zip us).length } := inv_startN S room.hd env many rel C names kept
  refine PySem.W.kla_codeExpr (wpAny_mono (der.run [] _ (startF N vs []) H Q I rd) (fun v s' rd => ?_) fun e s' rd => rd)
  obtain ⟨w', H', J, rw, q⟩ := rd
  exact (⟨w', H', J.os, J.bare, J.base, J.hok, rw, q⟩ : CE outer P w H s Q v s')
end
/-- its promise, whatever its parameters are called -/
def LamK (P : Program) (w : World) (K : PySem.W.Frag) (mg : Str → Option Value) (base : Heap) (k : Nat) (f : Addr) (F : NF) (e : Expr) (sp : Sp) : Prop := ∃ ps, LOk P w K mg base CX0 k f F e ps sp
/-- f(..), f a name that holds a lambda -/
def tCallL (L : Addr → NF → Expr → Sp → Prop) (i : Nat) (E : XK) (t : TA) : TE := fun σ H Q => ∃ (f : Addr) (F : NF) (b : Expr) (sp : Sp), σ[i]? = some (some (.ref f)) ∧ H f = some (LamO f F b) ∧ L f F b sp ∧
  t σ H fun vs H1 => H1 f = some (LamO f F b) ∧ H1 F.c = some (CodeO F.c F.qual) ∧ sp vs H1 Q E
section
variable {X : Cx} {L : Addr → NF → Expr → Sp → Prop} {i k j : Nat} {x : Str} {E : XK} {t : TA} {e : Expr} {es : List Expr} {p pos : Pos}
theorem lamAt_of {pins : List (Addr × Obj)} {σ : L2.St} {H : Hp} {s : Shared} {f : Addr} {F : NF} {b : Expr} (I : Inv X pins σ H s) (z : H f = some (LamO f F b)) : PySem.W.FnAt f s.heap := by
  obtain ⟨od, sl, pm, ctv, ho⟩ := lamO_at I.hok z
  exact ⟨_, od, _, sl, ho⟩
theorem pe_calll (hL : ∀ f F b sp, L f F b sp → LamK X.prog X.w X.K X.mg X.base k f F b sp) (hr : Room j X.A) (hk : k ≤ j) (hx : Passes CX0 X E) (hN : X.N[i]? = some x) (hv : Vis X.env.scope x) (ha : PA X (e :: es) t)
    (hd : (x == ("__debug__" : Str)) = false := by decide) (hcd : (x == ("__classdict__" : Str)) = false := by decide)
    (he : starEach (e :: es) X.env = (false, eval e X.env) :: starEach es X.env := by rfl) (hpl : (backTo pos (starEach es X.env)).any (·.1) = false := by rfl) :
    PE X (.Call (.Name x p) (e :: es) [] pos) (tCallL L i E t) := by
  refine ⟨fun pins s σ H Q I h => ?_⟩
  obtain ⟨f, F, b, sp, slot, atF, isL, rd⟩ := h
  obtain ⟨ps, LO⟩ := hL f F b sp isL
  refine wpAny_Call_Name_kw (thn ((pe_var (pos := p) hN hv hd hcd).run pins s σ H (fun v H1 => v = .ref f ∧ H1 = H) I ⟨.ref f, slot, rfl, rfl⟩) fun u s1 ⟨v, H1, J1, rel1, both⟩ => ?_)
  obtain ⟨isF, sameH⟩ := both
  subst isF
  rw [sameH] at J1
  obtain rfl : u = Value.ref f := rel1
  refine PySem.W.callWith_F (first := []) (lamAt_of J1 atF) (thn (ha.run pos pins s1 σ H _ J1 rd) fun us s2 ⟨vs, H2, J2, r, h1, h2, q⟩ => ⟨lamAt_of J2 h1, ?_⟩) he hpl
  show wpAny _ _ (call (.ref f) us) _ _ _
  refine wpAny_call (codeAny_mono (LO.run X.A X.stack s2 H2 us vs Q E (hr.mono hk) J2.env0 h1 h2 r q) fun r s' out => ?_)
  cases r with
  | error e => exact hx pins σ H2 s2 e s' J2 out
  | ok fl =>
    cases fl with
    | ret u => exact J2.after out
    | next => exact False.elim out
    | brk => exact False.elim out
    | cont => exact False.elim out
end
/-! ### all but the tables stay -/
theorem ExtN.of_same {H H' : Hp} (s : Same H H') : ExtN H H' := fun b o h _ => s b o h
theorem TabsN.same {T : List NTab} {H H' : Hp} (t : TabsN T H) (s : Same H H') : TabsN T H' := TabsN.ext t s
/-- all but the list at b and the tables is as it was -/
def ButN (b : Addr) (H H' : Hp) : Prop := ∀ a o, a ≠ b → (∀ ps, o ≠ .tbl ps) → H a = some o → H' a = some o
theorem ButN.refl (b : Addr) (H : Hp) : ButN b H H := fun _ _ _ _ h => h
theorem ButN.trans {b : Addr} {H H1 H2 : Hp} (x : ButN b H H1) (y : ButN b H1 H2) : ButN b H H2 := fun a o n t h => y a o n t (x a o n t h)
theorem ButN.of {b : Addr} {H H' : Hp} (x : But b H H') : ButN b H H' := fun a o n _ h => x a o n h
theorem ButN.ofN {b : Addr} {H H' : Hp} (x : ExtN H H') : ButN b H H' := fun a o _ t h => x a o h t
theorem frozen_tbl {o : HO} (h : frozen o) : ∀ ps, o ≠ .tbl ps := fun ps e => by
  rw [e] at h
  exact h
theorem ExtN.fz {H H' : Hp} (x : ExtN H H') : Fz H H' := fun a o f h => x a o h (frozen_tbl f)
theorem TabsN.but {T : List NTab} {b : Addr} {H H' : Hp} (t : TabsN T H) (hb : Box H b) (k : But b H H') : TabsN T H' := by
  obtain ⟨x, y, z, hb, _⟩ := hb
  intro p hp
  obtain ⟨ps, h1, h2, h3⟩ := t p hp
  refine ⟨ps, k _ _ (fun q => ?_) h1, h2, fun pos cv hc => ?_⟩
  · rw [q, hb] at h1
    cases h1
  · obtain ⟨c, e1, e2⟩ := h3 pos cv hc
    refine ⟨c, e1, k _ _ (fun q => ?_) e2⟩
    rw [q, hb] at e2
    unfold CodeO at e2
    cases e2
theorem Box.extN {b : Addr} {H H' : Hp} (x : Box H b) (s : ExtN H H') : Box H' b := by
  obtain ⟨x, y, z, h, i⟩ := x
  exact ⟨x, y, z, s _ _ h (fun _ e => by cases e), i⟩
/-! ### the end -/
/-- the tables of the defs of the top are known and empty -/
def TabsTop (K : PySem.W.Frag) (names : List Str) (h : Heap) : Prop := ∀ x ∈ names, ∀ c P, PySem.W.tabIn K x = some (c, P) → PySem.W.CodeHd h c P ∧ h.get? P = some (PySem.W.tabObj #[])
theorem walk_tabs {l : PySem.W.OpenLaw} {n k : Nat} {q : Program} {loose : List Str} {XP : (Str → Option Value) → Heap → Prop} {YP : World → Heap → Prop} {d : DefRec} {K : Params → PySem.W.Frag} {CX : World → CXT} {x : Str} (names : List Str)
    (most : l.most = some n) (fits : n ≤ sizeLine) (noDef : d.params.defaults = []) (room : Room k callerA) (hrec : names.all (fun y => ((recsOf q).find? fun e => e.name == y).isSome) = true) (frag : ∀ (w : World) (h : Heap), YP w h → (K w.params).In h)
    (F : ∀ (w : World) (mg : Str → Option Value) (fa : Addr) (h : Heap), YP w h → (K w.params).In h → h.Ns mainGlobals mg → mg d.name = some (.ref fa) → TabsTop (K w.params) names h → LawAtS l w (K w.params) (CX w) k n x mg fa h)
    (never : ∀ (w : World) (H : Hp) (s : Shared) (e : Value) (s' : Shared), CX w [] H s (fun _ _ _ => False) e s' → False) :
    PySem.W.WalkO q loose XP YP l.row.toRowW d [] (fun f vs => PySem.call f vs) := by
  refine Att.attach_callB most noDef fun w s₀ s₁ mg mb fa o pm cd doc a vs ns G Y ho hd hcd isLaw hobj hints hlen hbits hg => ?_
  have inK := frag w _ Y
  have tabs : TabsTop (K w.params) names s₁.heap := fun y hy c P ht => by
    have z := List.all_eq_true.mp hrec y hy
    obtain ⟨dL, hdL⟩ := Option.isSome_iff_exists.mp z
    exact PySem.W.tab_of G.T inK hdL ht
  obtain ⟨fd, cs, sp, hT, nT, C, hb, hsp, hF⟩ := F w mg fa _ Y inK G.T.g isLaw tabs
  exact law_callTs inK G.T.g G.T.b G.T.builtins G.T.nolimit hg hT nT C G.T.bmain hobj hints (Nat.le_trans hlen fits) room hF hb (fun H hH hS => hsp H a ns hlen hbits hH hS) fun H e s' => never w H s₁ e s'
end Rs
namespace Rs
open PySem PySem.Spec PyProof.Rows L2 LamX NdefX
/-- the name of the lambdas in the def x -/
def lamQ (x : Str) : Str := x ++ ".<locals>." ++ "<lambda>"
theorem code_tab {K : PySem.W.Frag} {x : Str} {f c P : Addr} {oc : Value} {od : Option Addr} {fd : FuncData} {sl : Array (Option Value)} (a : PySem.W.nsIn K mainGlobals x = some (some (.ref f))) (l : K.lookup f = some ⟨oc, od, .func fd, sl⟩) (t : PySem.W.tabIn K x = some (c, P)) : fd.code = .ref c := by
  unfold PySem.W.tabIn at t
  rw [a] at t
  dsimp only at t
  rw [l] at t
  dsimp only at t
  split at t
  · rename_i c2 hc
    split at t
    · split at t
      · cases t
        exact hc
      · cases t
    · cases t
  · cases t
/-- a def by its body, with what is known of its code object -/
theorem Fun.okC {P : Program} {w : World} {K : PySem.W.Frag} {mg : Str → Option Value} {base : Heap} {x qual : Str} {st : Stmt} {f : Addr} {fd : FuncData} {N ps : List Str} {k : Nat} {sp : Sp} (F : Fun K x qual st f fd) (S : FnScope N ps (defScope st)) (len : ∀ vs H Q E, sp vs H Q E → vs.length = ps.length)
    (hbody : ∀ (cdv : Value), fd.code = cdv → ∀ (A : Around) (outer : List Env) (s : Shared) (H : Hp) (vs : List V) (Q : VK) (E : XK), Room k (A.deeper (envOfC qual (defScope st) s.heap.objs.size f cdv)) → sp vs H Q E →
      ∃ t, PSs (cxOf CX0 P w K mg base N qual (defScope st) f cdv A outer s H E).nox (defBody st) t ∧ t { nx := fun _ H' => Q .non H', rt := Q } (start N vs) H) : FnOk P w K mg base CX0 (k + 1) f fd ps sp := by
  obtain ⟨oc, od, kV, doc, pm, an, cdv, ct, osl, rfl, lk, hcd⟩ := F.ex
  refine fn_of lk hcd S len fun A outer s H vs Q E hr hsp => ?_
  obtain ⟨t, h, q⟩ := hbody cdv rfl A outer s H vs Q E hr hsp
  exact ⟨t, h.nox, q⟩
/-- [e for x in l if t] over a list of ints -/
theorem lsel {K : PySem.W.Frag} {L : Addr} {ns : List Int} {te el : TE} {tt : TT} {sl : Nat} {σ : L2.St} {H : Hp} {Q : VK} (c : Int → Bool) (f : Int → V) (hte : ∀ R : VK, R (.ref L) H → te σ H R) (hL : H L = some (.lst (ns.map V.int))) (ln : ns.length ≤ 3000)
    (htt : ∀ n ∈ ns, ∀ (Hc : Hp) (R : Bool → Hp → Prop), Same H Hc → (∀ Hd, Same Hc Hd → R (c n) Hd) → tt ((wipe σ [sl]).set sl (some (.int n))) Hc R)
    (hel : ∀ n ∈ ns, ∀ (Hc : Hp) (R : VK), Same H Hc → (∀ Hd, Same Hc Hd → R (f n) Hd) → el ((wipe σ [sl]).set sl (some (.int n))) Hc R)
    (k : ∀ D H', H D = none → Same H H' → H' D = some (.lst ((ns.filter c).map f)) → Q (.ref D) H') : tLc (iList K te) (gName sl) tt el [sl] σ H Q := by
  refine hte _ ⟨L, rfl, ⟨_, SqL.of hL⟩, fun D hD => lc_it walk_list (fun i Hc => Hc D = some (.lst (((ns.take i).filter c).map f)) ∧ Same H Hc) ⟨upd_same, same_new hD⟩ (fun i Hc _ hR => hR.2.seq (SqL.of hL)) (fun j x Hc H' hj hR hy => ?_) (fun Hc hR => ?_)⟩
  · obtain ⟨rfl, hx⟩ := hy
    obtain ⟨hDc, sc⟩ := hR
    rw [List.getElem?_map] at hx
    obtain ⟨n, hn, rfl⟩ := Option.map_eq_some_iff.mp hx
    refine ⟨by simp [wipe, List.set_set], htt n (List.mem_of_getElem? hn) _ _ sc fun Hd sd => ?_⟩
    have z : (ns.take (j + 1)).filter c = (ns.take j).filter c ++ (if c n = true then [n] else []) := by
      rw [take_snoc hn, List.filter_append, List.filter_cons, List.filter_nil]
    refine ifB (fun e => ?_) (fun e => ?_)
    · refine hel n (List.mem_of_getElem? hn) _ _ (sc.trans sd) fun He se => ⟨_, se _ _ (sd _ _ hDc), ?_, ?_, same_lst ((sc.trans sd).trans se) hD⟩
      · rw [List.length_map]
        have := List.length_filter_le c (ns.take j)
        rw [List.length_take] at this
        exact szL2 (by omega)
      · rw [upd_same, z, e, if_pos rfl, List.map_append]
        rfl
    · refine ⟨?_, sc.trans sd⟩
      rw [z, e, if_neg Bool.false_ne_true, List.append_nil]
      exact sd _ _ hDc
  · rw [List.length_map, List.take_length] at hR
    exact k D Hc hD hR.2 hR.1
/-- [e for x in t] over a tuple of any things -/
theorem lmapTI {K : PySem.W.Frag} {L : Addr} {xs : List V} {te el : TE} {sl : Nat} {σ : L2.St} {H : Hp} {Q : VK} (f : Nat → V) (hte : ∀ R : VK, (∀ H1, Same H H1 → H1 L = some (.tup xs) → R (.ref L) H1) → te σ H R) (ln : xs.length ≤ 3000)
    (hel : ∀ (j : Nat) (x : V), xs[j]? = some x → ∀ (Hc : Hp) (R : VK), Same H Hc → (∀ Hd, Same Hc Hd → R (f j) Hd) → el ((wipe σ [sl]).set sl (some x)) Hc R)
    (k : ∀ D H', H D = none → Same H H' → H' D = some (.lst ((List.range xs.length).map f)) → Q (.ref D) H') : tLc (iTup K te) (gName sl) tYes el [sl] σ H Q := by
  refine hte _ fun H1 s1 hL => ⟨L, rfl, ⟨_, SqT.of hL⟩, fun D hD => lc_it walk_tup (fun i Hc => Hc D = some (.lst ((List.range i).map f)) ∧ Same H1 Hc) ⟨upd_same, same_new hD⟩ (fun i Hc _ hR => (Fz.of_same hR.2).sqT (SqT.of hL)) (fun j x Hc H' hj hR hy => ?_) (fun Hc hR => k D Hc (s1.free hD) (s1.trans hR.2) hR.1)⟩
  obtain ⟨rfl, hx⟩ := hy
  obtain ⟨hDc, sc⟩ := hR
  refine ⟨by simp [wipe, List.set_set], ?_⟩
  dsimp only [tYes]
  rw [if_pos rfl]
  have lt : j < xs.length := (List.getElem?_eq_some_iff.mp hx).1
  refine hel j x hx _ _ (s1.trans sc) fun Hd sd => ?_
  refine ⟨_, sd _ _ hDc, ?_, ?_, same_lst (sc.trans sd) hD⟩
  · rw [List.length_map, List.length_range]
    exact szL2 (by omega)
  · rw [upd_same, List.range_succ, List.map_append]
    rfl
end Rs
/-! try with clauses of any kind, one behind another: what has landed (Landed), what a row of clauses does with it (HandR) -/
namespace Rs
open PySem PySem.Spec PyProof.Rows L2
section
variable {X : Cx}
/-- an exception of the class cls, its own dict at d, stands at a and has landed at our frame, in the heap h -/
structure Landed (X : Cx) (pins : List (Addr × Obj)) (σ : L2.St) (H : Hp) (a : Addr) (cls : Value) (d : Option Addr) (t : Shared) (h : Heap) : Prop where
  new : H a = none
  past : ∃ (B : Heap) (t0 : Shared), Inv X pins σ H t0 ∧ (∀ b o, t0.heap.get? b = some o → b ∉ frs X.stack → B.get? b = some o) ∧ t0.heap.UpToSlots h ∧ HandSPX.FlyingZ B (X.env :: X.outer) a (Zc cls d) h ∧ t.os = t0.os ∧ AllBare t.gens
variable {pins : List (Addr × Obj)} {σ : L2.St} {H : Hp} {a : Addr} {cls : Value} {d : Option Addr} {t : Shared} {h : Heap}
theorem Landed.inv (l : Landed X pins σ H a cls d t h) : Inv X pins σ H { t with heap := h } := by
  obtain ⟨_, _, J, old, up, fly, os, ag⟩ := l.past
  exact J.landed old fly.1 up os ag
/-- within the clause's suite -/
theorem Landed.within (hf : X.env.frame = some X.env.locals) (l : Landed X pins σ H a cls d t h) :
    ∃ oe vs, h.get? a = some oe ∧ Zc cls d oe ∧ oe.data = .fields vs ∧ Inv (X.suite a ((a, oe) :: (X.pn ++ pins))) [] σ H { t with heap := h } := by
  have J := l.inv
  obtain ⟨B, _, _, _, _, fly, _, _⟩ := l.past
  obtain ⟨oe, vs, at_, z, fields⟩ := fly.there
  have far : a ∉ frs (X.env :: X.outer) := fun m => by
    obtain ⟨_, o, q, no⟩ := fly.2.2.1.mem m
    rw [at_] at q
    injection q with q
    rw [← q] at no
    exact no _ fields
  refine ⟨oe, vs, at_, z, fields, J.suite at_ fields l.new (fun q => ?_) fun m => ?_⟩
  · exact far (List.mem_filterMap.mpr ⟨X.env, .head _, by rw [hf, q]⟩)
  · obtain ⟨e, m1, m2⟩ := List.mem_filterMap.mp m
    exact far (List.mem_filterMap.mpr ⟨e, .tail _ m1, m2⟩)
theorem Landed.again {A : Around} {Q : Unit → Shared → Prop} {E : Value → Shared → Prop} (l : Landed X pins σ H a cls d t h) (k : ∀ h', Landed X pins σ H a cls d t h' → Q () { t with heap := h' }) :
    wpAny (model X.prog X.w) A (setFlight (.ref a) none) Q E { t with heap := h } := by
  obtain ⟨B, t0, J, old, up, fly, os, ag⟩ := l.past
  exact HandSPX.lands_againZ fly fun h' fly' up' => k h' ⟨l.new, B, t0, J, old, up.trans up', fly', os, ag⟩
/-- no clause takes it: it goes on -/
theorem Landed.on {W : WX} {Q : Unit → Shared → Prop} {E : Value → Shared → Prop} (hs : X.stack = X.env :: X.outer) (l : Landed X pins σ H a cls d t h) (w : W cls d σ H) (k : ∀ h', XE X W (.ref a) { t with heap := h' } → Q () { t with heap := h' }) :
    wpAny (model X.prog X.w) X.A (setFlight (.ref a) (some X.env.locals)) Q E { t with heap := h } := by
  obtain ⟨B, t0, J, old, up, fly, os, ag⟩ := l.past
  exact HandSPX.setFlight_upZ fly fun h' held up' => k h' ⟨a, B, t0, pins, σ, H, cls, d, rfl, J, old, up.trans up', by rw [hs]; exact .inr (.inr held), l.new, os, ag, w⟩
/-- what a row of clauses does with what has landed -/
def HandR (X : Cx) (hds : List ExceptHandler) (wish : Ends → WX) : Prop := ∀ (pins : List (Addr × Obj)) (σ : L2.St) (H : Hp) (a : Addr) (cls : Value) (d : Option Addr) (t : Shared) (h : Heap) (D : Ends), Landed X pins σ H a cls d t h → wish D cls d σ H →
  wpAny (model X.prog X.w) X.A (handleBy (.ref a) X.env hds) (SP X pins D) X.xe { t with heap := h }
theorem hand_nil {W : WX} (hs : X.stack = X.env :: X.outer) (hf : X.env.frame = some X.env.locals) (tk : Takes X W) : HandR X [] fun _ => W := by
  intro pins σ H a cls d t h D l w
  have go : ∀ {Q : Flow → Shared → Prop}, wpAny (model X.prog X.w) X.A (setFlight (.ref a) X.env.frame) (fun _ t' => wpAny (model X.prog X.w) X.A (throw (.ref a) : Sem Flow) Q X.xe t') X.xe { t with heap := h } := fun {Q} => by
    rw [hf]
    exact l.on hs w fun h' x => wpAny_throw (tk _ _ x)
  obtain ⟨_, _, _, _, _, ⟨_, _, _, oe, vs, T, _, _, at_, _, fields, one, _⟩, _, _⟩ := l.past
  refine wpAny_handleBy_nil ?_
  unfold PySem.passOn
  refine wpAny_bind (wpAny_field at_ fields one ?_)
  rw [if_neg (by simp : ¬ ((Value.ref T == Value.none) = true))]
  first
    | exact wpAny_bind (wpAny_pure (wpAny_bind go))
    | exact wpAny_bind go
/-- except x as n -/
theorem hand_as {x n : Str} {c : Value} {i : Nat} {b₀ : Stmt} {suite : List Stmt} {np pos' : Pos} {ts : Addr → Value → Option Addr → TS} {hds : List ExceptHandler} {more : Ends → WX} (hf : X.env.frame = some X.env.locals) (hN : X.N.Nodup) (hi : X.N[i]? = some n) (hln : X.env.kindOf n = some .local) (hc : Names X x c)
    (hsu : ∀ (a : Addr) (oe : Obj) (cls : Value) (d : Option Addr) (pn : List (Addr × Obj)), Zc cls d oe → (∃ vs, oe.data = .fields vs) → PSs (X.suite a ((a, oe) :: pn)) (b₀ :: suite) (ts a cls d)) (rest : HandR X hds more) :
    HandR X (.ExceptHandler (some (.Name x np)) (some n) (b₀ :: suite) pos' :: hds) fun D => wAs X.K c i ts (more D) D := by
  rintro pins σ H a cls d t h D l ⟨b, isc, yes, no⟩
  obtain ⟨oe, _, at_, z, _, S⟩ := l.within hf
  have looks : PySem.W.Looks (model X.prog X.w) h (typeOf (.ref a)) cls := fun _ _ _ _ k q => wpAny_typeOf_ref (k _ _ at_) (by rw [z.1]; exact q)
  have told : ∀ {Q : Value → Shared → Prop} {E : Value → Shared → Prop}, Q c { t with heap := h } → wpAny (model X.prog X.w) (X.A.mark (some (.ref a))) (eval (.Name x np) X.env) Q E { t with heap := h } := fun {Q E} q => by
    rcases hc with ⟨g, dbg, m | ⟨m, v, nn⟩⟩
    · exact ld_glob (X := X.suite a ((a, oe) :: (X.pn ++ pins))) S g m q dbg
    · exact ld_blt (X := X.suite a ((a, oe) :: (X.pn ++ pins))) S g m v q nn dbg
  refine wpAny_handleBy_cons (codeAny_handlers_test (told ((PySem.W.exm_one (M := model X.prog X.w) l.inv.kIn looks isc).here ?_))) (fun q => nomatch q)
  cases b
  · exact rest pins σ H a cls d t h D l (no rfl)
  · refine codeAny_handlers_suite_as (l.again fun h' l' => ?_)
    obtain ⟨oe', _, _, z', fields', S'⟩ := l'.within hf
    refine store_ok (X := X.suite a ((a, oe') :: (X.pn ++ pins))) (v := .ref a) S' hN hi (.inl hln) rfl (fun t1 S1 => ?_) (.inr hln)
    have bye : ∀ {σ2 : L2.St} {H2 : Hp} {t2 : Shared} {Q : Shared → Prop}, Inv (X.suite a ((a, oe') :: (X.pn ++ pins))) [] σ2 H2 t2 → (∀ t3, Inv X pins (σ2.set i none) H2 t3 → Q t3) →
        wpAny (model X.prog X.w) X.A (do bindName X.env n .none; unbindBehindTheSuite X.env n pos') (fun _ t3 => Q t3) X.xe t2 := fun J q => gone_ok (J.unsuite l.inv.ok) hN hi hln q
    refine wpAny_mono ((hsu a oe' cls d (X.pn ++ pins) z' ⟨_, fields'⟩).run [] t1 _ H _ S1 (yes rfl a l.new)) ?_ (fun _ _ q => q.elim)
    intro f t2 q
    match f, q with
    | .next, ⟨_, _, J, q⟩ => exact bye J fun _ J' => ⟨_, _, J', q⟩
    | .brk, ⟨_, _, J, q⟩ => exact bye J fun _ J' => ⟨_, _, J', q⟩
    | .cont, ⟨_, _, J, q⟩ => exact bye J fun _ J' => ⟨_, _, J', q⟩
    | .ret _, ⟨_, _, _, J, r, q⟩ => exact bye J fun _ J' => ⟨_, _, _, J', r, q⟩
/-- at the clauses the slots are as many as the names -/
theorem hand_len {hds : List ExceptHandler} {wish : Ends → WX} (r : HandR X hds wish) : HandR X hds fun D cls d σ H => σ.length = X.N.length → wish D cls d σ H := fun pins σ H a cls d t h D l w => r pins σ H a cls d t h D l (w l.inv.len)
theorem ps_try_by {body : List Stmt} {h₀ : ExceptHandler} {hds : List ExceptHandler} {pos : Pos} {tb : WX → TS} {wish : Ends → WX} (hs : X.stack = X.env :: X.outer) (hf : X.env.frame = some X.env.locals)
    (hb : ∀ (W : WX) (pn : List (Addr × Obj)) (xe : Value → Shared → Prop), Takes (X.tr pn xe) W → PassesOwn (model X.prog X.w) X.A X.env xe → PSs (X.tr pn xe) body (tb W)) (hr : HandR X (h₀ :: hds) wish) :
    PS X (.Try body (h₀ :: hds) [] [] pos) fun D σ H => tb (wish D) D σ H := by
  constructor
  intro pins t σ H D I w
  have ok := I.ok
  let catch_ : Value → Shared → Prop := fun e t1 => wpAny (model X.prog X.w) X.A (noteFrame e X.env) (fun _ t2 => wpAny (model X.prog X.w) X.A (setFlight e none) (fun _ t3 => wpAny (model X.prog X.w) X.A (handleBy e X.env (h₀ :: hds)) (SP X pins D) X.xe t3) X.xe t2) X.xe t1
  have caught : Takes (X.tr (X.pn ++ pins) catch_) (wish D) := by
    rintro _ t1 ⟨a, B, t0, pins', σ', H', cls, d, rfl, J, old, up, sky, new, os, ag, w⟩
    have fr : X.A.frames = some (X.env :: X.outer) := ok.frames.trans (by rw [hs])
    have sky : Sky B (X.env :: X.outer) a (Zc cls d) X.env.locals t1.heap := hs ▸ sky
    exact Sky.land Zc.steady fr hf sky fun h fly up' => hr _ _ _ _ _ _ _ _ _ ⟨new, B, t0, J.ofTry ok, old, up.trans up', fly, os, ag⟩ w
  refine wpAny_Try_except (wpAny_mono ((hb (wish D) _ catch_ caught PassesOwn.looking).run [] t σ H D (I.toTry _) w) ?_ fun _ _ q => q)
  intro f t1 q
  match f, q with
  | .next, ⟨_, _, J, q⟩ => exact wpAny_execs_nil ⟨_, _, J.ofTry ok, q⟩
  | .brk, ⟨_, _, J, q⟩ => exact ⟨_, _, J.ofTry ok, q⟩
  | .cont, ⟨_, _, J, q⟩ => exact ⟨_, _, J.ofTry ok, q⟩
  | .ret _, ⟨_, _, _, J, r, q⟩ => exact ⟨_, _, _, J.ofTry ok, r, q⟩
end
end Rs
/-! x not in a tuple, x an own object with its own __eq__; two rules of an operator in one -/
namespace Rs
open PySem PySem.Spec PyProof.Rows L2
section
variable {prog : Program} {w : World} {A : Around} {E : Value → Shared → Prop} {s : Shared}
theorem notin_tupG {l : Addr} {items : Array Value} {y : Value} {Q : Value → Shared → Prop} (I : Shared → Prop) (hl : s.heap.IsTuple l items)
    (turn : ∀ z, z ∈ items → ∀ s, I s → wpAny (model prog w) A.in1 (eqBool z y) (fun r s' => r = false ∧ I s') E s) (fin : ∀ s, I s → Q (.bool true) s) (h : I s) :
    wpAny (model prog w) A (compareOp .NotIn y (.ref l)) Q E s := by
  obtain ⟨⟨cls, dd, data, sl⟩, ho, hc, n, hd⟩ := id hl
  simp only at hc hd
  subst hc hd
  show wpAny _ A (do return .bool (!(← contains (.ref l) y))) Q E s
  refine wpAny_bind (wpAny_contains_slot ⟨_, ho, rfl⟩ F.slot_tuple_contains (wpAny_mono (GQ.call_here F.slot_tuple_contains ⟨_, ho, rfl⟩ F.entry_tuple_contains (F.args_tuple_contains_2 _ _)
    (tuple_inG (R := wants (fun v s' => v = .bool false ∧ Q (.bool true) s') E) l items n dd sl y I turn (fun s' q => ⟨rfl, fin s' q⟩) ho h)) (fun v s' hv => ?_) fun _ _ e => e))
  obtain ⟨rfl, hq⟩ := hv
  exact wpAny_truthy_bool (wpAny_pure hq)
end
section
variable {X : Cx} {CX : CXT} {C g : Addr} {n : Nat} {sp : Sp} {E : XK}
def rNotInO (K : PySem.W.Frag) (C : Addr) (sp : Sp) (E : XK) : R2 := fun x y H Q => ∃ a dx fs t xs, x = .ref a ∧ H a = some (.ins C dx fs) ∧ y = .ref t ∧ SqT K H t xs ∧ (∀ z ∈ xs, OthV K H z ∧ falseO sp E a z H) ∧ Q (.bl true) H
theorem op_notInO (O : OwnQ X.K C g) (N : OwnN X.K C) (F : FnR X.prog X.w X.K X.mg X.base CX n g sp) (hr : Room (n + 2) X.A) (hx : Passes CX X E) : OpR X (compareOp .NotIn) (rNotInO X.K C sp E) := by
  intro pins s σ H x y v u Q I rx ry h
  obtain ⟨a, dx, fs, t, xs, rfl, ha, rfl, ht, hz, q⟩ := h
  cases (show v = Value.ref a from rx)
  cases (show u = Value.ref t from ry)
  obtain ⟨its, rv, e, _⟩ := I.tuple ht
  have hr1 : Room n X.A.in1 := Room.in1 (hr.mono (by omega))
  refine notin_tupG (fun s' => Inv X pins σ H s') e (fun z hm s' I' => ?_) (fun s' I' => ⟨.bl true, H, I', rfl, q⟩) I
  obtain ⟨zz, hzz, rz⟩ := Vals.of_mem rv (by simpa using hm)
  exact rc_oth O N F hr1 I'.env0.in1 hx I' ha rz (hz zz hzz).1 (hz zz hzz).2
def rOr (r1 r2 : R2) : R2 := fun x y H Q => r1 x y H Q ∨ r2 x y H Q
theorem op_or {op : Value → Value → Sem Value} {r1 r2 : R2} (h1 : OpR X op r1) (h2 : OpR X op r2) : OpR X op (rOr r1 r2) := by
  intro pins s σ H x y v u Q I rx ry h
  rcases h with h | h
  · exact h1 pins s σ H x y v u Q I rx ry h
  · exact h2 pins s σ H x y v u Q I rx ry h
end
end Rs
/-! a def that may raise, where it does not -/
namespace Rs
open PySem PySem.Spec PyProof.Rows L2
section
variable {P : Program} {w : World} {K : PySem.W.Frag} {mg : Str → Option Value} {base : Heap} {k : Nat} {f : Addr} {fd : FuncData} {ps : List Str} {sp : Sp}
def quietSp (sp : Sp) : Sp := fun vs H Q _ => sp vs H Q E0
theorem quiet (F : FnOk P w K mg base (L2.CX P w) k f fd ps sp) : FnOk P w K mg base CX0 k f fd ps (quietSp sp) := by
  refine ⟨fun vs H Q E h => F.len vs H Q E0 h, fun A outer s H args us vs Q E hr he hb hv hs => codeAny_mono (F.run A outer s H args us vs Q E0 hr he hb hv hs) fun r s' hq => ?_⟩
  cases r with
  | ok fl =>
    cases fl with
    | ret u => exact hq
    | next => exact hq
    | brk => exact hq
    | cont => exact hq
  | error e =>
    obtain ⟨a, B, H', cls, d, _, _, _, _, _, _, _, hE⟩ := hq
    exact hE
end
end Rs
/-! An own class over IndexError whose __init__ is walked as a def and sets one field: OexC of HandS.ExcInit speaks of ValueError. -/
namespace Rs
open PySem PySem.Spec PyProof.Rows L2
/-- IndexError's line of classes -/
abbrev ieTail : List Value := [.type "IndexError", .type "LookupError", .type "Exception", .type "BaseException", .type "object"]
section
open PySem.Builtin PySem.Builtin.ObjectAttr PySem.W
theorem ie_passes (self : Value) (C : Addr) : refuseLoop self "__setattr__" (.ref C :: ieTail) = pure () := by
  rw [refuseLoop_ref]
  kernel_rfl
variable {prog : Program} {w : World} {A : Around} {R : Result → Shared → Prop} {hp : Heap} {g : Array GenState} {dr : Drawn} {tn : Nat} {os : OsState}
/-- self.name = v where self has no dict as yet -/
theorem osa_ie {K : Frag} {name : Str} {tk : Tok} {v : Value} {x C : Addr} {fv : Array Value} {cd : ClassData} (X : K.In hp) (there : hp.get? x = some { cls := .ref C, data := .fields fv }) (is : clsIn K C = some cd) (line : cd.mro = .ref C :: ieTail) (has : cd.hasDict = true)
    (free : findIn K (.ref C) name = some none)
    (go : ∀ h2 t2 dx, (∀ b o, b ≠ x → hp.get? b = some o → h2.get? b = some o) → hp.objs.size ≤ dx → dx ≠ x → h2.get? x = some { cls := .ref C, dict := some dx, data := .fields fv } → h2.Ns1 dx (fun y => if y = name then some v else none) →
      R (.ok (.ret .none)) ⟨h2, g, dr, t2, os⟩) : codeAny (model prog w) A (.call (.builtin "object.__setattr__") ⟨[.ref x, .str name tk, v], []⟩) R ⟨hp, g, dr, tn, os⟩ := by
  have J : InstAt hp x { cls := .ref C, data := .fields fv } C none := ⟨there, rfl, rfl, trivial⟩
  have xs : x ≠ hp.objs.size := Nat.ne_of_lt (Heap.lt_size there)
  have full : cd.mro.isEmpty = false := by rw [line]; rfl
  have obj : cd.mro.contains (.type "object") = true := by rw [line, List.contains_cons]; exact (Bool.or_eq_true _ _).mpr (.inr (by decide +kernel))
  have inst : Looks (model prog w) hp (isInstance (.ref x) (.type "object")) true :=
    J.type.andThen (looks_mroIn X (by unfold mroIn; rw [is, Option.bind_some, if_neg (by rw [full]; decide), obj]))
  refine codeAny_call_builtin PySem.F.store_object.slot.plain PySem.F.store_object.entry
    (@check_slot (model prog w) _ _ ⟨hp, g, dr, tn, os⟩ "object.__setattr__" "object" "__setattr__" (.ref x) [.str name tk, v] [] _ PySem.F.store_object.kind PySem.F.store_object.split inst (PySem.F.store_object.args (.ref x) (.str name tk) v) ?_)
  have mro : Looks (model prog w) hp (mroOf (.ref C)) cd.mro := (looks_clsIn X is).andThen .now
  have nobody : Looks (model prog w) hp (storeTaker? none) none := .now
  have data : Looks (model prog w) hp (classData C) cd := looks_clsIn X is
  rw [osa_eq, refuse_eq]
  refine wpAny_bind (wpAny_bind (J.type.at (wpAny_bind (mro.at ?_))))
  rw [line, ie_passes]
  refine wpAny_pure (wpAny_bind (J.type.at (wpAny_bind ((looks_findIn X free).at (wpAny_bind (nobody.at ?_))))))
  show wpAny _ _ (storeInOwnDict (.ref x) (.ref C) (.str name tk) name v false) _ _ _
  clear full obj mro line
  obtain ⟨nm, bs, mro, ns, qn, hd, sn, sb, ab, col, del⟩ := cd
  dsimp only at has
  subst has
  unfold storeInOwnDict
  unfold ownDictForStores
  repeat (first | with_reducible refine PySem.HandSPX.store_in_new ?_ ?_ | (with_reducible refine wpAny_loadPart_at there ?_) | (with_reducible refine data.at ?_) | wp_step)
  · exact ⟨_, #[], _, (Heap.get?_update_ne _ _ _ _ xs.symm).trans (Heap.get?_push_at rfl rfl), rfl, (fun e he => by simp at he), fun _ => rfl⟩
  · intro h2 t2 ns1 sb
    have there2 : (hp.push { cls := .type "dict", data := .dict #[] }).get? x = some { cls := .ref C, data := .fields fv } := Heap.get?_push_of_some _ there
    refine go h2 t2 hp.objs.size (fun b o nb ho => ?_) (Nat.le_refl _) xs.symm ((sb.2 x xs).trans (Heap.get?_update_self _ there2 rfl)) ns1
    exact (sb.2 b (Nat.ne_of_lt (Heap.lt_size ho))).trans ((Heap.get?_update_ne _ _ _ _ nb).trans (Heap.get?_push_of_some _ ho))
end
/-- what the written part says of such a class -/
structure OexI (K : PySem.W.Frag) (C : Addr) : Prop where
  cls : ∃ nm q N bs sn sub ab col dd k0 k1 k2 k3 k5, K.lookup C = some (excClassObj nm q C N bs ieTail true sn sub ab col dd k0 k1 k2 k3 k5 "IndexError.__new__")
  sa : PySem.W.findIn K (.ref C) "__setattr__" = some (some (.builtin "object.__setattr__"))
  ex : PySem.W.subIn K (.ref C) (.type "BaseException") = some true
  ty : PySem.W.typeIn K (.ref C) = some (.type "type")
  kp : PySem.W.keepIn K (.ref C) = true
section
variable {X : Cx} {pins : List (Addr × Obj)} {σ : L2.St} {H : Hp} {s : Shared} {a C : Addr} {f : Str} {y : V} {u : Value} {E : Value → Shared → Prop} {A : Around} {Q : Unit → Shared → Prop}
theorem ost_ie (T : OexI X.K C) (I : Inv X pins σ H s) (e : H a = some (exo a C none)) (free : PySem.W.findIn X.K (.ref C) f = some none) (ry : RelV y u)
    (go : ∀ dx s2, H dx = none → dx ≠ a → Inv X pins σ (upd (upd H dx (exd dx [(f, y)])) a (exo a C (some dx))) s2 → Q () s2) : wpAny (model X.prog X.w) A (setAttr (.ref a) f u) Q E s := by
  obtain ⟨nm, q, N, bs, sn, sub, ab, col, dd, k0, k1, k2, k3, k5, hC⟩ := T.cls
  have known : PySem.W.clsIn X.K C = some { name := nm, bases := bs, mro := .ref C :: ieTail, ns := N, qualname := q, hasDict := true, slotNames := sn, subclasses := sub, abstract := ab, collection := col, hasDel := false } := by
    unfold PySem.W.clsIn
    rw [hC]
  obtain ⟨t1, ho⟩ := exo_at I.hok e
  obtain ⟨hp, g, d, t, os⟩ := s
  refine PySem.W.set_plain I.kIn (ox := { cls := .ref C, dict := none, data := .fields #[.ref t1, .none, .none, .none, .bool false, .none] }) (od := none) ⟨ho, rfl, rfl, trivial⟩ T.sa
    (osa_ie I.kIn ho known rfl rfl free fun h2 tk2 dx kept new ne hx ns => ?_)
  have none2 : H dx = none := I.hok.fresh new
  have old : ∀ {b : Addr} {o : Obj}, hp.get? b = some o → b ≠ dx := fun {b o} z => Nat.ne_of_lt (Nat.lt_of_lt_of_le (Heap.lt_size z) new)
  have nota : ∀ {b : Addr}, H b = none → b ≠ a := fun {b} n z => by rw [z, e] at n; cases n
  have far : ∀ {b : Addr} {o : HO}, H b = some o → (∀ r, exo a C r ≠ o) → upd (upd H dx (exd dx [(f, y)])) a (exo a C (some dx)) b = some o := fun {b o} z n => by
    rw [upd_ne (fun w => by rw [w, e] at z; exact n none (Option.some.inj z)), upd_ne (ne_of_none z none2)]
    exact z
  have U : Un X.fs [] H (upd (upd H dx (exd dx [(f, y)])) a (exo a C (some dx))) hp h2 :=
    { keep := fun b o z n _ _ => kept b o (nota n) z
      slot := fun b o z n _ _ => ⟨o.slots, kept b o (nota n) z⟩
      free := fun b o z n _ => by rw [upd_ne (nota n), upd_ne (old z)]; exact n
      there := fun b o z _ => by
        by_cases hb : b = a
        · subst hb
          exact ⟨_, hx⟩
        · exact ⟨o, kept b o hb z⟩
      tups := fun b xs z => far z fun r => exo_tup
      frzs := fun b o v z => by
        rw [upd_ne (at_ne e z exo_frz), upd_ne (ne_of_none z none2)]
        exact z
      tbls := fun b ps z => ⟨#[], by rw [upd_ne (at_ne e z exo_tbl), upd_ne (ne_of_none z none2), z]; simp⟩ }
  refine go dx _ none2 ne (I.un (t' := tk2) U fun b o z => ?_)
  by_cases hb : b = a
  · subst hb
    rw [upd_same] at z
    cases z
    exact exo_ok hx
  rw [upd_ne hb] at z
  by_cases hd : b = dx
  · subst hd
    rw [upd_same] at z
    cases z
    exact exd_ok ns (relO_put (fs := []) ry fun _ => True.intro)
  rw [upd_ne hd] at z
  have way : ∀ {c : Addr} {o2 : HO}, H c = some o2 → c ≠ a → upd (upd H dx (exd dx [(f, y)])) a (exo a C (some dx)) c = some o2 := fun {c o2} hc nc => by
    rw [upd_ne nc, upd_ne (ne_of_none hc none2)]
    exact hc
  refine (I.hok b o z).stay (fun c v hc z2 => kept c v ?_ z2) (fun c hc => way hc (at_ne e hc exo_own)) fun c xs hc => way hc (at_ne e hc exo_tup)
  rcases hc with hc | hc
  · exact hc ▸ hb
  · exact at_ne e hc exo_own
end
section
variable {X : Cx} {o e : Expr} {es : List Expr} {to te : TE} {ta : TA} {f : Str} {p p' pos : Pos}
/-- self.f = e, the first field -/
def tOsi (K : PySem.W.Frag) (f : Str) (to te : TE) : TS := fun D σ H => te σ H fun y H1 => to σ H1 fun x H2 => ∃ a C : Addr, x = .ref a ∧ OexI K C ∧ PySem.W.findIn K (.ref C) f = some none ∧
  H2 a = some (exo a C none) ∧ ∀ dx, H2 dx = none → dx ≠ a → D.nx σ (upd (upd H2 dx (exd dx [(f, y)])) a (exo a C (some dx)))
theorem ps_osi (ho : PE X o to) (he : PE X e te) (hs : swapsWith e (some (.Attribute o f p')) pos.line X.env = pure false := by rfl) : PS X (.Assign [.Attribute o f p'] e pos) (tOsi X.K f to te) := by
  refine ⟨fun pins s σ H D I h => plainObj_wpAny_Assign_Attribute (thn (he.run pins s σ H _ I h) fun v s1 r1 => ?_) hs⟩
  obtain ⟨y, H1, I1, ry, q1⟩ := r1
  refine thn (ho.run pins s1 σ H1 _ I1 q1) fun u s2 r2 => ?_
  obtain ⟨x, H2, I2, rx, a, C, ex, T, free, ea, q⟩ := r2
  subst ex
  cases (show u = Value.ref a from rx)
  exact ost_ie T I2 ea free ry fun dx s3 n ne J => ⟨σ, _, J, q dx n ne⟩
/-- C(e, ..), C's own __init__ keeping sp -/
theorem pmk_oei {CX : CXT} {x : Str} {C fI : Addr} {k : Nat} {fd : FuncData} {ps : List Str} {sp : Sp} (T : OexI X.K C) (iC : PySem.W.findIn X.K (.ref C) "__init__" = some (some (.ref fI))) (tI : PySem.W.typeIn X.K (.ref fI) = some (.type "function"))
    (F : FnOk X.prog X.w X.K X.mg X.base CX k fI fd ps sp) (hr : Room (k + 1) X.A) (hb : Binds X.K fd ps []) (hx : Passes CX X (fun _ _ _ => False)) (hg : Gl X x) (hm : X.mg x = some (.ref C)) (ha : PA X (e :: es) ta)
    (hdb : (x == ("__debug__" : Str)) = false := by decide) (he : starEach (e :: es) X.env = (false, eval e X.env) :: starEach es X.env := by rfl) (hpl : (backTo pos (starEach es X.env)).any (·.1) = false := by rfl) : PMk X (.Call (.Name x p) (e :: es) [] pos) (tMkO C sp [] ta) := by
  intro pins s σ H Q I h
  obtain ⟨nm, q, N, bs, sn, sub, ab, col, dd, k0, k1, k2, k3, k5, hC⟩ := T.cls
  refine wpAny_Call_Name_kw (ld_glob I hg hm (PySem.W.callWith_K (h₀ := X.base) I.ok.mod.kin T.kp (thn (ha.run pos pins s σ H _ I h) fun us s1 res => ?_) he hpl) hdb)
  obtain ⟨vs, H1, I1, r1, hz, q1⟩ := res
  refine ⟨I1.kIn, ?_⟩
  show wpAny _ _ (call (.ref C) us) _ _ _
  obtain ⟨hp, g, dr, tk, os⟩ := s1
  have up : hp.objs.size ≤ hp.objs.size + 1 := Nat.le_succ _
  have want := q1 (hp.objs.size + 1) (I1.hok.fresh up)
  have kept : ∀ b o, hp.get? b = some o → ((hp.push (PySem.W.kdv_tup us)).push (PySem.HandSPX.excO C hp.objs.size)).get? b = some o := fun b o z => Heap.get?_push_of_some _ (Heap.get?_push_of_some _ z)
  have at1 : ((hp.push (PySem.W.kdv_tup us)).push (PySem.HandSPX.excO C hp.objs.size)).get? (hp.objs.size + 1) = some (PySem.HandSPX.excO C hp.objs.size) := by heap_get
  have J : Inv X pins σ (upd H1 (hp.objs.size + 1) (exo (hp.objs.size + 1) C none)) ⟨(hp.push (PySem.W.kdv_tup us)).push (PySem.HandSPX.excO C hp.objs.size), g, dr, tk, os⟩ := Inv.laid (t' := tk) I1 kept up (exo_ok at1)
  have rel : Vals (V.ref (hp.objs.size + 1) :: (vs ++ [])) (Value.ref (hp.objs.size + 1) :: us) := .cons rfl (by rw [List.append_nil]; exact r1)
  have n1 : (Value.ref (hp.objs.size + 1) :: us).length = ps.length := by rw [← rel.length]; exact F.len _ _ _ _ want
  have bd := hb _ (Value.ref (hp.objs.size + 1) :: us) J.kIn (by rw [List.append_nil]; exact n1)
  rw [List.append_nil] at bd
  have few : us.length ≤ sizeLine := by have e1 := r1.length; have e2 := sizeLine_eq; omega
  refine wpAny_call (PySem.HandSPX.call_own PySem.F.excBase_IndexError (fun _ => rfl) (I1.kIn _ _ hC) (PySem.W.looks_findIn I1.kIn iC) (fun self => PySem.W.bind_fn I1.kIn self tI) few
    (codeAny_mono (F.run _ X.stack _ _ ⟨Value.ref (hp.objs.size + 1) :: us, []⟩ _ _ _ (fun _ _ _ => False) (hr.make C us []) (J.env0.make C us []) bd rel want) fun r s2 got => ?_))
  cases r with
  | error er => exact hx pins σ _ _ er s2 J got
  | ok fl =>
    cases fl with
    | next => exact got.elim
    | brk => exact got.elim
    | cont => exact got.elim
    | ret u =>
      obtain ⟨v, H2, os2, bare2, un2, ok2, rv, ev, d, fs, ea, ed, hd1, q2⟩ := got
      subst ev
      obtain ⟨h2, g2, d2, t2, os3⟩ := s2
      exact ⟨rv, mk_end (raises_own T.ex T.ty) I1 up kept un2 ok2 os2 bare2 ea ed hd1 q2⟩
end
end Rs
/-! own exceptions as values: made, asked by isinstance, their field read -/
namespace Rs
open PySem PySem.Spec PyProof.Rows L2
section
variable {X : Cx} {CX : CXT} {k : Nat} {C fI : Addr} {fd : FuncData} {ps : List Str} {sp : Sp} {x : Str} {p pos : Pos} {e : Expr} {es : List Expr} {ta : TA}
def tExo (C : Addr) (sp : Sp) (t : TA) : TE := fun σ H Q => t σ H fun vs H1 => vs.length ≤ 1000 ∧ ∀ a, H1 a = none → sp (.ref a :: vs) (upd H1 a (exo a C none)) (fun v H2 => v = .non ∧ Q (.ref a) H2) (fun _ _ _ => False)
theorem pe_oex (T : OexC X.K C) (iC : PySem.W.findIn X.K (.ref C) "__init__" = some (some (.ref fI))) (tI : PySem.W.typeIn X.K (.ref fI) = some (.type "function"))
    (F : FnOk X.prog X.w X.K X.mg X.base CX k fI fd ps sp) (hr : Room (k + 1) X.A) (hb : Binds X.K fd ps []) (hx : Passes CX X (fun _ _ _ => False)) (hg : Gl X x) (hm : X.mg x = some (.ref C)) (ha : PA X (e :: es) ta)
    (hdb : (x == ("__debug__" : Str)) = false := by decide) (he : starEach (e :: es) X.env = (false, eval e X.env) :: starEach es X.env := by rfl) (hpl : (backTo pos (starEach es X.env)).any (·.1) = false := by rfl) :
    PE X (.Call (.Name x p) (e :: es) [] pos) (tExo C sp ta) := by
  refine ⟨fun pins s σ H Q I h => ?_⟩
  obtain ⟨nm, q, N, bs, bm, sn, sub, ab, col, dd, k0, k1, k2, k3, k5, hC, hbm⟩ := T.cls
  refine wpAny_Call_Name_kw (ld_glob I hg hm ?_ hdb)
  refine PySem.W.callWith_K (h₀ := X.base) I.ok.mod.kin T.kC (thn (ha.run pos pins s σ H _ I h) fun us s1 res => ?_) he hpl
  obtain ⟨vs, H1, I1, r1, hz, q1⟩ := res
  refine ⟨I1.kIn, ?_⟩
  show wpAny _ _ (call (.ref C) us) _ _ _
  obtain ⟨hp, g, dr, tk, os⟩ := s1
  have up : hp.objs.size ≤ hp.objs.size + 1 := Nat.le_succ _
  have want := q1 (hp.objs.size + 1) (I1.hok.fresh up)
  have kept : ∀ b o, hp.get? b = some o → ((hp.push (PySem.W.kdv_tup us)).push (PySem.HandSPX.excO C hp.objs.size)).get? b = some o := fun b o z => Heap.get?_push_of_some _ (Heap.get?_push_of_some _ z)
  have at1 : ((hp.push (PySem.W.kdv_tup us)).push (PySem.HandSPX.excO C hp.objs.size)).get? (hp.objs.size + 1) = some (PySem.HandSPX.excO C hp.objs.size) := by heap_get
  have J : Inv X pins σ (upd H1 (hp.objs.size + 1) (exo (hp.objs.size + 1) C none)) ⟨(hp.push (PySem.W.kdv_tup us)).push (PySem.HandSPX.excO C hp.objs.size), g, dr, tk, os⟩ := Inv.laid (t' := tk) I1 kept up (exo_ok at1)
  have rel : Vals (V.ref (hp.objs.size + 1) :: vs) (Value.ref (hp.objs.size + 1) :: us) := .cons rfl r1
  have n1 : (Value.ref (hp.objs.size + 1) :: us).length = ps.length := by rw [← rel.length]; exact F.len _ _ _ _ want
  have bd := hb _ (Value.ref (hp.objs.size + 1) :: us) J.kIn (by rw [List.append_nil]; exact n1)
  rw [List.append_nil] at bd
  have few : us.length ≤ sizeLine := by have e1 := r1.length; have e2 := sizeLine_eq; omega
  refine wpAny_call (PySem.HandSPX.call_own PySem.F.excBase_ValueError (fun Y => PySem.HandSPX.refsVE_contains Y bm hbm) (I1.kIn _ _ hC) (PySem.W.looks_findIn I1.kIn iC) (fun self => PySem.W.bind_fn I1.kIn self tI) few
    (codeAny_mono (F.run _ X.stack _ _ ⟨Value.ref (hp.objs.size + 1) :: us, []⟩ _ _ _ (fun _ _ _ => False) (hr.make C us []) (J.env0.make C us []) bd rel want) fun r s2 got => ?_))
  cases r with
  | error er => exact hx pins σ _ _ er s2 J got
  | ok fl =>
    cases fl with
    | next => exact got.elim
    | brk => exact got.elim
    | cont => exact got.elim
    | ret u =>
      obtain ⟨v, H2, J2, rv, ev, q2⟩ := J.after got
      subst ev
      exact ⟨rv, .ref (hp.objs.size + 1), H2, J2, rfl, q2⟩
theorem pe_oei (T : OexI X.K C) (iC : PySem.W.findIn X.K (.ref C) "__init__" = some (some (.ref fI))) (tI : PySem.W.typeIn X.K (.ref fI) = some (.type "function"))
    (F : FnOk X.prog X.w X.K X.mg X.base CX k fI fd ps sp) (hr : Room (k + 1) X.A) (hb : Binds X.K fd ps []) (hx : Passes CX X (fun _ _ _ => False)) (hg : Gl X x) (hm : X.mg x = some (.ref C)) (ha : PA X (e :: es) ta)
    (hdb : (x == ("__debug__" : Str)) = false := by decide) (he : starEach (e :: es) X.env = (false, eval e X.env) :: starEach es X.env := by rfl) (hpl : (backTo pos (starEach es X.env)).any (·.1) = false := by rfl) :
    PE X (.Call (.Name x p) (e :: es) [] pos) (tExo C sp ta) := by
  refine ⟨fun pins s σ H Q I h => ?_⟩
  obtain ⟨nm, q, N, bs, sn, sub, ab, col, dd, k0, k1, k2, k3, k5, hC⟩ := T.cls
  refine wpAny_Call_Name_kw (ld_glob I hg hm ?_ hdb)
  refine PySem.W.callWith_K (h₀ := X.base) I.ok.mod.kin T.kp (thn (ha.run pos pins s σ H _ I h) fun us s1 res => ?_) he hpl
  obtain ⟨vs, H1, I1, r1, hz, q1⟩ := res
  refine ⟨I1.kIn, ?_⟩
  show wpAny _ _ (call (.ref C) us) _ _ _
  obtain ⟨hp, g, dr, tk, os⟩ := s1
  have up : hp.objs.size ≤ hp.objs.size + 1 := Nat.le_succ _
  have want := q1 (hp.objs.size + 1) (I1.hok.fresh up)
  have kept : ∀ b o, hp.get? b = some o → ((hp.push (PySem.W.kdv_tup us)).push (PySem.HandSPX.excO C hp.objs.size)).get? b = some o := fun b o z => Heap.get?_push_of_some _ (Heap.get?_push_of_some _ z)
  have at1 : ((hp.push (PySem.W.kdv_tup us)).push (PySem.HandSPX.excO C hp.objs.size)).get? (hp.objs.size + 1) = some (PySem.HandSPX.excO C hp.objs.size) := by heap_get
  have J : Inv X pins σ (upd H1 (hp.objs.size + 1) (exo (hp.objs.size + 1) C none)) ⟨(hp.push (PySem.W.kdv_tup us)).push (PySem.HandSPX.excO C hp.objs.size), g, dr, tk, os⟩ := Inv.laid (t' := tk) I1 kept up (exo_ok at1)
  have rel : Vals (V.ref (hp.objs.size + 1) :: vs) (Value.ref (hp.objs.size + 1) :: us) := .cons rfl r1
  have n1 : (Value.ref (hp.objs.size + 1) :: us).length = ps.length := by rw [← rel.length]; exact F.len _ _ _ _ want
  have bd := hb _ (Value.ref (hp.objs.size + 1) :: us) J.kIn (by rw [List.append_nil]; exact n1)
  rw [List.append_nil] at bd
  have few : us.length ≤ sizeLine := by have e1 := r1.length; have e2 := sizeLine_eq; omega
  refine wpAny_call (PySem.HandSPX.call_own PySem.F.excBase_IndexError (fun _ => rfl) (I1.kIn _ _ hC) (PySem.W.looks_findIn I1.kIn iC) (fun self => PySem.W.bind_fn I1.kIn self tI) few
    (codeAny_mono (F.run _ X.stack _ _ ⟨Value.ref (hp.objs.size + 1) :: us, []⟩ _ _ _ (fun _ _ _ => False) (hr.make C us []) (J.env0.make C us []) bd rel want) fun r s2 got => ?_))
  cases r with
  | error er => exact hx pins σ _ _ er s2 J got
  | ok fl =>
    cases fl with
    | next => exact got.elim
    | brk => exact got.elim
    | cont => exact got.elim
    | ret u =>
      obtain ⟨v, H2, J2, rv, ev, q2⟩ := J.after got
      subst ev
      exact ⟨rv, .ref (hp.objs.size + 1), H2, J2, rfl, q2⟩
/-- C() of a class without an own __init__ -/
theorem pe_exc0 {bmB : List Value} {B newId initId : String} (F : ExcBaseFacts B newId initId bmB) (q : PySem.W.excIn X.K C bmB newId = true) (gC : X.mg x = some (.ref C)) (kC : PySem.W.keepIn X.K (.ref C) = true) (hg : Gl X x)
    (hdb : (x == ("__debug__" : Str)) = false := by decide) : PE X (.Call (.Name x p) [] [] pos) (fun σ H Q => ∀ a, H a = none → Q (.ref a) (upd H a (ExO (.ref C) a))) := by
  refine ⟨fun pins s σ H Q I h => ?_⟩
  refine wpAny_Call_Name_kw (ld_glob I hg gC ?_ hdb)
  have I1 := I
  refine PySem.W.callWith_K0 I.kIn kC ?_
  obtain ⟨bm, N, nm, qn, bs, hdct, sn, sub, ab, col, dd, k0, k1, k2, k3, k5, mN, hC, hN, hni, T⟩ := exc_obj I1.kIn q
  refine wpAny_call_exc_subT F T hC hN hni (fun h' a hm => ?_) (by show 0 ≤ sizeLine; omega)
  have hn : H a = none := I1.hok.gone hm.new
  obtain ⟨t, ht, _, _⟩ := hm.there
  exact ⟨.ref a, upd H a (ExO (.ref C) a), I1.laidN hm.keeps hm.new hn (exO_ok ht ⟨rfl, rfl⟩ rfl rfl rfl (show 4 < 6 by decide)), rfl, h a hn⟩
end
/-- at a: an exception of the class at C; its field, where it has one -/
def ErrA (H : Hp) (a C : Addr) (o : Option (Str × V)) : Prop := (∃ dx f y, o = some (f, y) ∧ H a = some (exo a C (some dx)) ∧ H dx = some (exd dx [(f, y)])) ∨ (o = none ∧ H a = some (ExO (.ref C) a))
section
variable {X : Cx} {pins : List (Addr × Obj)} {σ : L2.St} {H : Hp} {s : Shared} {a C : Addr} {o : Option (Str × V)}
theorem err_at (I : Inv X pins σ H s) (h : ErrA H a C o) : ∃ oe od, PySem.W.InstAt s.heap a oe C od ∧ ∀ f y, o = some (f, y) → ∃ (dx : Addr) (od1 : Obj) (u : Value), od = some od1 ∧ PySem.W.lookIn f od1 = some (some u) ∧ RelV y u := by
  rcases h with ⟨dx, f, y, rfl, ha, hd⟩ | ⟨rfl, ha⟩
  · obtain ⟨t1, ho⟩ := exo_at I.hok ha
    obtain ⟨mA, hns, rel⟩ := exd_at I.hok hd
    obtain ⟨od, ho2, hl⟩ := lookIn_ns hns
    refine ⟨_, some od, ⟨ho, rfl, by unfold PySem.W.notCls; rfl, ho2⟩, fun f' y' e => ?_⟩
    cases e
    obtain ⟨u, hu, ru⟩ := RelO.some_of (v := y) (o := mA f) (by
      have z := rel f
      rw [lookup_put, if_pos rfl] at z
      exact z)
    exact ⟨dx, od, u, rfl, by rw [hl, hu], ru⟩
  · obtain ⟨⟨oe, vs, he, hz, hd, _, _, _⟩, _⟩ := (show ObjOk X.prog X.w H s.heap a (ExO (.ref C) a) from I.hok a _ ha)
    exact ⟨oe, none, ⟨he, hz.1, by unfold PySem.W.notCls; rw [hd] <;> rfl, by rw [hz.2]; trivial⟩, fun f' y' e => nomatch e⟩
end
section
variable {X : Cx}
def rIsE (K : PySem.W.Frag) : List V → Hp → VK → Prop := fun xs H Q => ∃ (a C : Addr) (o : Option (Str × V)) (c : V) (cv : Value) (b : Bool), xs = [.ref a, c] ∧ ErrA H a C o ∧ ExX K C ∧ ClsV c cv ∧ PySem.W.kitOne K (.ref C) cv = some b ∧ Q (.bl b) H
theorem call_isE : CallR X (.builtin "isinstance") (rIsE X.K) := by
  intro pins s σ H xs us Q I r h
  obtain ⟨a, C, o, c, cv, b, rfl, he, T, kc, e, q⟩ := h
  obtain ⟨u1, u2, rfl, r1, r2⟩ := vals2 r
  obtain rfl := kc.eq r2
  cases (show u1 = Value.ref a from r1)
  obtain ⟨oe, od, J, _⟩ := err_at I he
  exact PySem.W.kia_one (PySem.W.kitx_exc T.cl T.ga T.gg T.sb T.ca T.sp T.tk T.mo) I.kIn J e (fun z => nomatch z) fun tk => ⟨.bl b, H, I.tok tk, rfl, q⟩
def tXfE (K : PySem.W.Frag) (f : Str) (te : TE) : TE := fun σ H Q => te σ H fun x H1 => ∃ (a C : Addr) (v : V), x = .ref a ∧ ErrA H1 a C (some (f, v)) ∧ XfC K C ∧ PySem.W.findIn K (.ref C) f = some none ∧ Q v H1
theorem pe_xfE {e : Expr} {te : TE} {pos : Pos} {n : Str} (he : PE X e te) (hb : attributeBase e n X.env (eval e X.env) = eval e X.env := by rfl) : PE X (.Attribute e n pos) (tXfE X.K n te) := by
  refine ⟨fun pins s σ H Q I h => ?_⟩
  refine attr_of hb (thn (he.run pins s σ H _ I h) fun u s1 hh => ?_)
  obtain ⟨x, H1, I1, rx, a, C, v, ex, ea, T, hno, q⟩ := hh
  subst ex
  cases (show u = Value.ref a from rx)
  obtain ⟨oe, od, J, more⟩ := err_at I1 ea
  obtain ⟨dx, od1, u, rfl, hl, ru⟩ := more n v rfl
  exact HandSPX.exc_get I1.kIn J T.ga T.gg T.exC (PySem.W.findObj_own T.hdC hno rfl hl) (handed_of ru) ⟨v, H1, I1.tok _, ru, q⟩
end
end Rs
namespace K06
open PySem PySem.Spec PyProof.Rows L2 Rs
local macro_rules | `(tactic| walk_at "om") => `(tactic| first | omega | (dsimp only; omega))
local macro_rules | `(tactic| walk_at "side") => `(tactic| first | omega | (dsimp only; omega) | decide | (unfold CMul; omega) | (unfold CDiv; omega) | (unfold CPow; omega) | exact wide_div (b := 64) (by omega) (by omega) (by decide) (by decide))
local macro_rules | `(tactic| walk_at "hp") => `(tactic| first | assumption | exact upd_same)
local macro_rules | `(tactic| walk_at "sq") => `(tactic| first | assumption | exact SqL.of (by assumption) | exact SqL.of upd_same)
local macro_rules | `(tactic| walk_at "st") => `(tactic| first
  | refine ⟨_, rfl, ?_⟩
  | (refine ⟨_, _, rfl, rfl, And.intro ?side ?_⟩; (case side => walk_at "side"))
  | refine ⟨_, _, rfl, rfl, ?_⟩
  | (refine' ⟨_, _, _, _, rfl, rfl, SqL.of ?hp, ?atx, ?_⟩; (case hp => walk_at "hp"); (case atx => exact rfl))
  | (refine' ⟨_, _, _, _, rfl, rfl, ?hp, ?atx, ?_⟩; (case hp => walk_at "hp"); (case atx => exact rfl))
  | (refine' ⟨_, _, rfl, Or.inl ?sq, ?_⟩; (case sq => walk_at "sq"))
  | refine Or.inl ⟨_, rfl, ?_⟩
  | refine Or.inr ⟨_, rfl, ?_⟩)
local macro_rules | `(tactic| walk_at "evd") => `(tactic| first
  | exact evd_int
  | exact evd_str
  | exact evd_non
  | exact evd_bl
  | exact evd_nil
  | (refine evd_cons ?_ (fun _ => ?_) <;> walk_at "evd")
  | (refine evd_tup ?_ (Nat.le_of_ble_eq_true rfl); walk_at "evd"))

def topS (i : Nat) : Stmt := PySem.Challenge.pw_ringsums_k06_lanes_and_blocks_refused.main.body.getD i (.Pass ⟨0, 0, 0, 0⟩)
abbrev s_InvalidForm___init__ : Stmt := inClass (topS 3) 0
theorem sc_InvalidForm___init__ : FnScope ["self", "word"] ["self", "word"] (defScope s_InvalidForm___init__) := ⟨rfl, rfl, rfl, by decide +kernel, rfl, by decide +kernel, by decide +kernel⟩
abbrev s_InvalidLane___init__ : Stmt := inClass (topS 4) 0
theorem sc_InvalidLane___init__ : FnScope ["self", "word"] ["self", "word"] (defScope s_InvalidLane___init__) := ⟨rfl, rfl, rfl, by decide +kernel, rfl, by decide +kernel, by decide +kernel⟩
abbrev s_InvalidBlock___init__ : Stmt := inClass (topS 5) 0
theorem sc_InvalidBlock___init__ : FnScope ["self", "word"] ["self", "word"] (defScope s_InvalidBlock___init__) := ⟨rfl, rfl, rfl, by decide +kernel, rfl, by decide +kernel, by decide +kernel⟩
abbrev s_Form___init__ : Stmt := inClass (topS 12) 0
theorem sc_Form___init__ : FnScope ["self", "times", "plus", "by"] ["self", "times", "plus", "by"] (defScope s_Form___init__) := ⟨rfl, rfl, rfl, by decide +kernel, rfl, by decide +kernel, by decide +kernel⟩
abbrev s_Form___eq__ : Stmt := inClass (topS 12) 2
theorem sc_Form___eq__ : FnScope ["self", "other"] ["self", "other"] (defScope s_Form___eq__) := ⟨rfl, rfl, rfl, by decide +kernel, rfl, by decide +kernel, by decide +kernel⟩
abbrev s_Lane___init__ : Stmt := inClass (topS 22) 0
theorem sc_Lane___init__ : FnScope ["self", "way", "sign", "shift", "deed"] ["self", "way", "sign", "shift", "deed"] (defScope s_Lane___init__) := ⟨rfl, rfl, rfl, by decide +kernel, rfl, by decide +kernel, by decide +kernel⟩
abbrev s_Lane___eq__ : Stmt := inClass (topS 22) 2
theorem sc_Lane___eq__ : FnScope ["self", "other"] ["self", "other"] (defScope s_Lane___eq__) := ⟨rfl, rfl, rfl, by decide +kernel, rfl, by decide +kernel, by decide +kernel⟩
abbrev s_Block___init__ : Stmt := inClass (topS 23) 0
theorem sc_Block___init__ : FnScope ["self", "rounds", "lanes", "lane"] ["self", "rounds", "lanes"] (defScope s_Block___init__) := ⟨rfl, rfl, rfl, by decide +kernel, rfl, by decide +kernel, by decide +kernel⟩
abbrev s_Block___eq__ : Stmt := inClass (topS 23) 1
theorem sc_Block___eq__ : FnScope ["self", "other"] ["self", "other"] (defScope s_Block___eq__) := ⟨rfl, rfl, rfl, by decide +kernel, rfl, by decide +kernel, by decide +kernel⟩
abbrev s_is_whole : Stmt := topS 8
theorem sc_is_whole : FnScope ["value"] ["value"] (defScope s_is_whole) := ⟨rfl, rfl, rfl, by decide +kernel, rfl, by decide +kernel, by decide +kernel⟩
abbrev s_is_sequence : Stmt := topS 9
theorem sc_is_sequence : FnScope ["value"] ["value"] (defScope s_is_sequence) := ⟨rfl, rfl, rfl, by decide +kernel, rfl, by decide +kernel, by decide +kernel⟩
abbrev s__law_box : Stmt := topS 25
theorem sc__law_box : FnScope ["_law_script", "_law_k", "_law_cell", "_law_seed", "_law_wide"] ["_law_script", "_law_k"] (defScope s__law_box) := ⟨rfl, rfl, rfl, by decide +kernel, rfl, by decide +kernel, by decide +kernel⟩
abbrev s__law_take : Stmt := topS 26
theorem sc__law_take : FnScope ["_law_box_here", "_law_many", "_law_digit", "_law_near"] ["_law_box_here", "_law_many"] (defScope s__law_take) := ⟨rfl, rfl, rfl, by decide +kernel, rfl, by decide +kernel, by decide +kernel⟩
abbrev s__law_pick : Stmt := topS 27
theorem sc__law_pick : FnScope ["_law_box_here", "_law_some"] ["_law_box_here", "_law_some"] (defScope s__law_pick) := ⟨rfl, rfl, rfl, by decide +kernel, rfl, by decide +kernel, by decide +kernel⟩
abbrev s__law_form : Stmt := topS 28
theorem sc__law_form : FnScope ["_law_box_here", "_law_far", "_law_times", "_law_plus"] ["_law_box_here", "_law_far"] (defScope s__law_form) := ⟨rfl, rfl, rfl, by decide +kernel, rfl, by decide +kernel, by decide +kernel⟩
abbrev s__law_lane : Stmt := topS 29
theorem sc__law_lane : FnScope ["_law_box_here", "_law_far", "_law_way", "_law_sign"] ["_law_box_here", "_law_far"] (defScope s__law_lane) := ⟨rfl, rfl, rfl, by decide +kernel, rfl, by decide +kernel, by decide +kernel⟩
abbrev s__law_lane_of : Stmt := topS 30
theorem sc__law_lane_of : FnScope ["_law_lane_here"] ["_law_lane_here"] (defScope s__law_lane_of) := ⟨rfl, rfl, rfl, by decide +kernel, rfl, by decide +kernel, by decide +kernel⟩
abbrev s__law_any : Stmt := topS 31
theorem sc__law_any : FnScope ["_law_box_here", "_law_deep", "_law_form_here", "_law_some", "_law_k", "_law_words", "_law_plain"] ["_law_box_here", "_law_deep"] (defScope s__law_any) := ⟨rfl, rfl, rfl, by decide +kernel, rfl, by decide +kernel, by decide +kernel⟩
abbrev s__law_lane_due : Stmt := topS 32
theorem sc__law_lane_due : FnScope ["_law_told"] ["_law_told"] (defScope s__law_lane_due) := ⟨rfl, rfl, rfl, by decide +kernel, rfl, by decide +kernel, by decide +kernel⟩
abbrev s__law_block_due : Stmt := topS 33
theorem sc__law_block_due : FnScope ["_law_told", "_law_one"] ["_law_told"] (defScope s__law_block_due) := ⟨rfl, rfl, rfl, by decide +kernel, rfl, by decide +kernel, by decide +kernel⟩
abbrev s__law_refused : Stmt := topS 34
theorem sc__law_refused : FnScope ["_law_work", "_law_found", "e"] ["_law_work"] (defScope s__law_refused) := ⟨rfl, rfl, rfl, by decide +kernel, rfl, by decide +kernel, by decide +kernel⟩
abbrev s_law : Stmt := topS 35
theorem sc_law : FnScope ["_law_script", "_law_k", "_law_box_here", "_law_turn", "_law_drawn", "_law_good", "_law_told", "_law_more", "_law_odd", "_law_word", "_law_due", "_law_rounds", "_law_lanes", "_law_both"] ["_law_script"] (defScope s_law) := ⟨rfl, rfl, rfl, by decide +kernel, rfl, by decide +kernel, by decide +kernel⟩
/-- what the top has written -/
structure Txt (K : PySem.W.Frag) (mg : Str → Option Value) where
  c_RingError : Addr
  m_RingError : mg "RingError" = some (.ref c_RingError)
  c_InvalidForm : Addr
  m_InvalidForm : mg "InvalidForm" = some (.ref c_InvalidForm)
  a_InvalidForm___init__ : Addr
  d_InvalidForm___init__ : FuncData
  F_InvalidForm___init__ : Fun K "__init__" "InvalidForm.__init__" s_InvalidForm___init__ a_InvalidForm___init__ d_InvalidForm___init__
  b_InvalidForm___init__ : Binds K d_InvalidForm___init__ ["self", "word"] []
  k_InvalidForm___init__ : PySem.W.keepIn K (.ref a_InvalidForm___init__) = true
  x_InvalidForm : OexC K c_InvalidForm
  X_InvalidForm : ExX K c_InvalidForm
  f_InvalidForm : XfC K c_InvalidForm
  n_InvalidForm : PySem.W.findIn K (.ref c_InvalidForm) "word" = some none
  i_InvalidForm : PySem.W.findIn K (.ref c_InvalidForm) "__init__" = some (some (.ref a_InvalidForm___init__))
  t_InvalidForm : PySem.W.typeIn K (.ref a_InvalidForm___init__) = some (.type "function")
  e_InvalidForm : PySem.W.exmOne K (.ref c_InvalidForm) (.ref c_InvalidForm) = some true
  c_InvalidLane : Addr
  m_InvalidLane : mg "InvalidLane" = some (.ref c_InvalidLane)
  a_InvalidLane___init__ : Addr
  d_InvalidLane___init__ : FuncData
  F_InvalidLane___init__ : Fun K "__init__" "InvalidLane.__init__" s_InvalidLane___init__ a_InvalidLane___init__ d_InvalidLane___init__
  b_InvalidLane___init__ : Binds K d_InvalidLane___init__ ["self", "word"] []
  k_InvalidLane___init__ : PySem.W.keepIn K (.ref a_InvalidLane___init__) = true
  x_InvalidLane : OexC K c_InvalidLane
  X_InvalidLane : ExX K c_InvalidLane
  f_InvalidLane : XfC K c_InvalidLane
  n_InvalidLane : PySem.W.findIn K (.ref c_InvalidLane) "word" = some none
  i_InvalidLane : PySem.W.findIn K (.ref c_InvalidLane) "__init__" = some (some (.ref a_InvalidLane___init__))
  t_InvalidLane : PySem.W.typeIn K (.ref a_InvalidLane___init__) = some (.type "function")
  e_InvalidLane : PySem.W.exmOne K (.ref c_InvalidLane) (.ref c_InvalidLane) = some true
  c_InvalidBlock : Addr
  m_InvalidBlock : mg "InvalidBlock" = some (.ref c_InvalidBlock)
  a_InvalidBlock___init__ : Addr
  d_InvalidBlock___init__ : FuncData
  F_InvalidBlock___init__ : Fun K "__init__" "InvalidBlock.__init__" s_InvalidBlock___init__ a_InvalidBlock___init__ d_InvalidBlock___init__
  b_InvalidBlock___init__ : Binds K d_InvalidBlock___init__ ["self", "word"] []
  k_InvalidBlock___init__ : PySem.W.keepIn K (.ref a_InvalidBlock___init__) = true
  x_InvalidBlock : OexC K c_InvalidBlock
  X_InvalidBlock : ExX K c_InvalidBlock
  f_InvalidBlock : XfC K c_InvalidBlock
  n_InvalidBlock : PySem.W.findIn K (.ref c_InvalidBlock) "word" = some none
  i_InvalidBlock : PySem.W.findIn K (.ref c_InvalidBlock) "__init__" = some (some (.ref a_InvalidBlock___init__))
  t_InvalidBlock : PySem.W.typeIn K (.ref a_InvalidBlock___init__) = some (.type "function")
  e_InvalidBlock : PySem.W.exmOne K (.ref c_InvalidBlock) (.ref c_InvalidBlock) = some true
  c_Form : Addr
  m_Form : mg "Form" = some (.ref c_Form)
  C_Form : Cls K c_Form
  n_Form_times : NoAttr K c_Form "times"
  n_Form_plus : NoAttr K c_Form "plus"
  n_Form_by : NoAttr K c_Form "by"
  I_Form : OwnI K c_Form
  N_Form : OwnN K c_Form
  a_Form___init__ : Addr
  d_Form___init__ : FuncData
  F_Form___init__ : FunD K "__init__" "Form.__init__" (defArgs s_Form___init__) (defBody s_Form___init__) (defScope s_Form___init__) [(.int 0), (.int 0), (.int 1)] [] a_Form___init__ d_Form___init__
  b_Form___init__ : Binds K d_Form___init__ ["self", "times", "plus", "by"] []
  k_Form___init__ : PySem.W.keepIn K (.ref a_Form___init__) = true
  M_Form : Mk K c_Form a_Form___init__
  a_Form___eq__ : Addr
  d_Form___eq__ : FuncData
  F_Form___eq__ : Fun K "__eq__" "Form.__eq__" s_Form___eq__ a_Form___eq__ d_Form___eq__
  b_Form___eq__ : Binds K d_Form___eq__ ["self", "other"] []
  k_Form___eq__ : PySem.W.keepIn K (.ref a_Form___eq__) = true
  O_Form : OwnQ K c_Form a_Form___eq__
  c_Lane : Addr
  m_Lane : mg "Lane" = some (.ref c_Lane)
  C_Lane : Cls K c_Lane
  n_Lane_way : NoAttr K c_Lane "way"
  n_Lane_sign : NoAttr K c_Lane "sign"
  n_Lane_shift : NoAttr K c_Lane "shift"
  n_Lane_deed : NoAttr K c_Lane "deed"
  I_Lane : OwnI K c_Lane
  N_Lane : OwnN K c_Lane
  a_Lane___init__ : Addr
  d_Lane___init__ : FuncData
  F_Lane___init__ : Fun K "__init__" "Lane.__init__" s_Lane___init__ a_Lane___init__ d_Lane___init__
  b_Lane___init__ : Binds K d_Lane___init__ ["self", "way", "sign", "shift", "deed"] []
  k_Lane___init__ : PySem.W.keepIn K (.ref a_Lane___init__) = true
  M_Lane : Mk K c_Lane a_Lane___init__
  a_Lane___eq__ : Addr
  d_Lane___eq__ : FuncData
  F_Lane___eq__ : Fun K "__eq__" "Lane.__eq__" s_Lane___eq__ a_Lane___eq__ d_Lane___eq__
  b_Lane___eq__ : Binds K d_Lane___eq__ ["self", "other"] []
  k_Lane___eq__ : PySem.W.keepIn K (.ref a_Lane___eq__) = true
  O_Lane : OwnQ K c_Lane a_Lane___eq__
  c_Block : Addr
  m_Block : mg "Block" = some (.ref c_Block)
  C_Block : Cls K c_Block
  n_Block_rounds : NoAttr K c_Block "rounds"
  n_Block_lanes : NoAttr K c_Block "lanes"
  I_Block : OwnI K c_Block
  N_Block : OwnN K c_Block
  a_Block___init__ : Addr
  d_Block___init__ : FuncData
  F_Block___init__ : Fun K "__init__" "Block.__init__" s_Block___init__ a_Block___init__ d_Block___init__
  b_Block___init__ : Binds K d_Block___init__ ["self", "rounds", "lanes"] []
  k_Block___init__ : PySem.W.keepIn K (.ref a_Block___init__) = true
  M_Block : Mk K c_Block a_Block___init__
  a_Block___eq__ : Addr
  d_Block___eq__ : FuncData
  F_Block___eq__ : Fun K "__eq__" "Block.__eq__" s_Block___eq__ a_Block___eq__ d_Block___eq__
  b_Block___eq__ : Binds K d_Block___eq__ ["self", "other"] []
  k_Block___eq__ : PySem.W.keepIn K (.ref a_Block___eq__) = true
  O_Block : OwnQ K c_Block a_Block___eq__
  kit_InvalidLane_RingError : PySem.W.kitOne K (.ref c_InvalidLane) (.ref c_RingError) = some true
  kit_InvalidLane_InvalidBlock : PySem.W.kitOne K (.ref c_InvalidLane) (.ref c_InvalidBlock) = some false
  kit_InvalidLane_InvalidForm : PySem.W.kitOne K (.ref c_InvalidLane) (.ref c_InvalidForm) = some false
  kit_InvalidBlock_RingError : PySem.W.kitOne K (.ref c_InvalidBlock) (.ref c_RingError) = some true
  kit_InvalidBlock_InvalidForm : PySem.W.kitOne K (.ref c_InvalidBlock) (.ref c_InvalidForm) = some false
  kit_InvalidBlock_InvalidLane : PySem.W.kitOne K (.ref c_InvalidBlock) (.ref c_InvalidLane) = some false
  kit_Lane_Form : PySem.W.kitOne K (.ref c_Lane) (.ref c_Form) = some false
  kit_Form_Lane : PySem.W.kitOne K (.ref c_Form) (.ref c_Lane) = some false
  A_WAYS : Addr
  m_WAYS : mg "WAYS" = some (.ref A_WAYS)
  s_WAYS : ∀ H, SqT K H A_WAYS [.str "up", .str "down"]
  A_SIGNS : Addr
  m_SIGNS : mg "SIGNS" = some (.ref A_SIGNS)
  s_SIGNS : ∀ H, SqT K H A_SIGNS [.str "+", .str "-"]
  A_DEEDS : Addr
  m_DEEDS : mg "DEEDS" = some (.ref A_DEEDS)
  s_DEEDS : ∀ H, SqT K H A_DEEDS [.str "add", .str "put"]
  a_is_whole : Addr
  d_is_whole : FuncData
  F_is_whole : Fun K "is_whole" "is_whole" s_is_whole a_is_whole d_is_whole
  b_is_whole : Binds K d_is_whole ["value"] []
  k_is_whole : PySem.W.keepIn K (.ref a_is_whole) = true
  m_is_whole : mg "is_whole" = some (.ref a_is_whole)
  a_is_sequence : Addr
  d_is_sequence : FuncData
  F_is_sequence : Fun K "is_sequence" "is_sequence" s_is_sequence a_is_sequence d_is_sequence
  b_is_sequence : Binds K d_is_sequence ["value"] []
  k_is_sequence : PySem.W.keepIn K (.ref a_is_sequence) = true
  m_is_sequence : mg "is_sequence" = some (.ref a_is_sequence)
  a__law_box : Addr
  d__law_box : FuncData
  F__law_box : Fun K "_law_box" "_law_box" s__law_box a__law_box d__law_box
  b__law_box : Binds K d__law_box ["_law_script", "_law_k"] []
  k__law_box : PySem.W.keepIn K (.ref a__law_box) = true
  m__law_box : mg "_law_box" = some (.ref a__law_box)
  a__law_take : Addr
  d__law_take : FuncData
  F__law_take : Fun K "_law_take" "_law_take" s__law_take a__law_take d__law_take
  b__law_take : Binds K d__law_take ["_law_box_here", "_law_many"] []
  k__law_take : PySem.W.keepIn K (.ref a__law_take) = true
  m__law_take : mg "_law_take" = some (.ref a__law_take)
  a__law_pick : Addr
  d__law_pick : FuncData
  F__law_pick : Fun K "_law_pick" "_law_pick" s__law_pick a__law_pick d__law_pick
  b__law_pick : Binds K d__law_pick ["_law_box_here", "_law_some"] []
  k__law_pick : PySem.W.keepIn K (.ref a__law_pick) = true
  m__law_pick : mg "_law_pick" = some (.ref a__law_pick)
  a__law_form : Addr
  d__law_form : FuncData
  F__law_form : Fun K "_law_form" "_law_form" s__law_form a__law_form d__law_form
  b__law_form : Binds K d__law_form ["_law_box_here", "_law_far"] []
  k__law_form : PySem.W.keepIn K (.ref a__law_form) = true
  m__law_form : mg "_law_form" = some (.ref a__law_form)
  a__law_lane : Addr
  d__law_lane : FuncData
  F__law_lane : Fun K "_law_lane" "_law_lane" s__law_lane a__law_lane d__law_lane
  b__law_lane : Binds K d__law_lane ["_law_box_here", "_law_far"] []
  k__law_lane : PySem.W.keepIn K (.ref a__law_lane) = true
  m__law_lane : mg "_law_lane" = some (.ref a__law_lane)
  a__law_lane_of : Addr
  d__law_lane_of : FuncData
  F__law_lane_of : Fun K "_law_lane_of" "_law_lane_of" s__law_lane_of a__law_lane_of d__law_lane_of
  b__law_lane_of : Binds K d__law_lane_of ["_law_lane_here"] []
  k__law_lane_of : PySem.W.keepIn K (.ref a__law_lane_of) = true
  m__law_lane_of : mg "_law_lane_of" = some (.ref a__law_lane_of)
  a__law_any : Addr
  d__law_any : FuncData
  F__law_any : Fun K "_law_any" "_law_any" s__law_any a__law_any d__law_any
  b__law_any : Binds K d__law_any ["_law_box_here", "_law_deep"] []
  k__law_any : PySem.W.keepIn K (.ref a__law_any) = true
  m__law_any : mg "_law_any" = some (.ref a__law_any)
  a__law_lane_due : Addr
  d__law_lane_due : FuncData
  F__law_lane_due : Fun K "_law_lane_due" "_law_lane_due" s__law_lane_due a__law_lane_due d__law_lane_due
  b__law_lane_due : Binds K d__law_lane_due ["_law_told"] []
  k__law_lane_due : PySem.W.keepIn K (.ref a__law_lane_due) = true
  m__law_lane_due : mg "_law_lane_due" = some (.ref a__law_lane_due)
  a__law_block_due : Addr
  d__law_block_due : FuncData
  F__law_block_due : Fun K "_law_block_due" "_law_block_due" s__law_block_due a__law_block_due d__law_block_due
  b__law_block_due : Binds K d__law_block_due ["_law_told"] []
  k__law_block_due : PySem.W.keepIn K (.ref a__law_block_due) = true
  m__law_block_due : mg "_law_block_due" = some (.ref a__law_block_due)
  a__law_refused : Addr
  d__law_refused : FuncData
  F__law_refused : Fun K "_law_refused" "_law_refused" s__law_refused a__law_refused d__law_refused
  b__law_refused : Binds K d__law_refused ["_law_work"] []
  k__law_refused : PySem.W.keepIn K (.ref a__law_refused) = true
  m__law_refused : mg "_law_refused" = some (.ref a__law_refused)
  a_law : Addr
  d_law : FuncData
  F_law : Fun K "law" "law" s_law a_law d_law
  b_law : Binds K d_law ["_law_script"] []
  k_law : PySem.W.keepIn K (.ref a_law) = true
  tc_law : Addr
  tp_law : Addr
  cd_law : d_law.code = .ref tc_law
  m_law : mg "law" = some (.ref a_law)
  z_abs : mg "abs" = none
  z_all : mg "all" = none
  z_bool : mg "bool" = none
  z_int : mg "int" = none
  z_isinstance : mg "isinstance" = none
  z_len : mg "len" = none
  z_list : mg "list" = none
  z_max : mg "max" = none
  z_min : mg "min" = none
  z_range : mg "range" = none
  z_str : mg "str" = none
  z_tuple : mg "tuple" = none
/-- the tables of code objects that the law's lambdas fill -/
def tabsT {K : PySem.W.Frag} {mg : Str → Option Value} (T : Txt K mg) : List NdefX.NTab := [(T.tp_law, fun _ _ => lamQ "law")]
section
variable {P : Program} {w : World} {K : PySem.W.Frag} {mg : Str → Option Value} {base : Heap}
def spTake : Sp := fun vs H Q _ => ∃ (b : Addr) (m : Int), vs = [.ref b, .int m] ∧ Box H b ∧ 0 < m ∧ m < 2 ^ 40 ∧
  ∀ (r : Int) (H' : Hp), 0 ≤ r → r < m → Box H' b → But b H H' → Q (.int r) H'
theorem ok_take (T : Txt K mg) : FnOk P w K mg base CX0 1 T.a__law_take T.d__law_take ["_law_box_here", "_law_many"] spTake := by
  refine T.F__law_take.ok sc__law_take (fun vs H Q E h => ?_) (fun cdv A outer s H vs Q E hr h => ?_)
  · obtain ⟨b, m, rfl, _⟩ := h
    rfl
  · obtain ⟨b, m, rfl, ⟨x, y, z, hb, ⟨x0, y1, y2⟩⟩, m0, m1, k⟩ := h
    have nd := sc__law_take.nd
    refine ⟨_, (pss_cons (ps_if (pt_cmpR op_gt (pe_ix ix_list (pv 0) pe_int (fun _ _ => rfl)) pe_int (nomark _)) (pss_cons (ps_set (i := 2) nd rfl (Or.inl rfl) (pe_op op_mod (pe_callTy call_int1 (by rfl) T.z_int (by decide +kernel) (pa_cons (pe_ix ix_list (pv 0) pe_int (fun _ _ => rfl)) pa_nil)) (pv 1)))
    (pss_cons (ps_asg (pe_op op_fdivW (pe_ix ix_list (pv 0) pe_int (fun _ _ => rfl)) (pv 1)) (pg_sub (pv 0) pe_int set_list))
    (pss_one (ps_ret (pv 2))))) pss_nil)
    (pss_cons (ps_asg (pe_op op_add (pe_ix ix_list (pv 0) pe_int (fun _ _ => rfl)) pe_int) (pg_sub (pv 0) pe_int set_list))
    (pss_cons (ps_set (i := 3) nd rfl (Or.inl rfl) (pe_op op_mod (pe_callTy call_int1 (by rfl) T.z_int (by decide +kernel) (pa_cons (pe_op op_mul (pe_op op_add (pe_ix ix_list (pv 0) pe_int (fun _ _ => rfl)) (pe_op op_mul pe_int (pe_ix ix_list (pv 0) pe_int (fun _ _ => rfl)))) pe_int) pa_nil)) pe_int))
    (pss_cons (ps_asg (pe_op op_add (pe_op op_mod (pe_callTy call_int1 (by rfl) T.z_int (by decide +kernel) (pa_cons (pe_op op_add (pe_op op_mul (pv 3) pe_int) pe_int) pa_nil)) pe_int) pe_int) (pg_sub (pv 0) pe_int set_list))
    (pss_one (ps_ret (pe_op op_mod (pe_callTy call_int1 (by rfl) T.z_int (by decide +kernel) (pa_cons (pe_op op_fdiv (pe_op op_add (pe_op op_mul (pv 3) pe_int) (pe_ix ix_list (pv 0) pe_int (fun _ _ => rfl))) pe_int) pa_nil)) (pv 1)))))))), ?_⟩
    repeat walk_at "st"
    refine ifB (fun e => ?_) (fun e => ?_)
    · repeat walk_at "st"
      exact k _ _ (Int.emod_nonneg _ (by omega)) (Int.emod_lt_of_pos _ m0) ⟨x / m, y, z, upd_same, Int.ediv_nonneg x0 (by omega), y1, y2⟩ (But.refl _ _).upd
    · repeat walk_at "st"
      exact k _ _ (Int.emod_nonneg _ (by omega)) (Int.emod_lt_of_pos _ m0) ⟨_, _, _, upd_same, x0, by omega, by omega⟩ (((But.refl _ _).upd).upd)
local macro_rules | `(tactic| walk_at "boxtail") => `(tactic| (
  repeat walk_at "st"
  refine ifB (fun e9 => ?_) (fun e9 => ?_)))
/-- the box of a cell -/
def spBox (K : PySem.W.Frag) : Sp := fun vs H Q _ => ∃ (a : Addr) (ns : List Int) (i : Int), vs = [.ref a, .int i] ∧ SqL K H a (ns.map V.int) ∧ 0 ≤ i ∧ i < 1000 ∧
  ∀ (H' : Hp) (p : Addr), Same H H' → H p = none → Box H' p → Q (.ref p) H'
theorem ok_box (T : Txt K mg) : FnOk P w K mg base CX0 1 T.a__law_box T.d__law_box ["_law_script", "_law_k"] (spBox K) := by
  refine T.F__law_box.ok sc__law_box (fun vs H Q E h => ?_) (fun cdv A outer s H vs Q E hr h => ?_)
  · obtain ⟨a, ns, i, rfl, _⟩ := h
    rfl
  · obtain ⟨a, ns, i, rfl, hS, i0, i1, k⟩ := h
    have nd := sc__law_box.nd
    refine ⟨_, (pss_cons (ps_set (i := 2) nd rfl (Or.inl rfl) (pe_op op_add (pe_op op_mul pe_int (pv 1)) pe_int))
    (pss_cons (ps_if (pt_cmpR op_lt (pv 1) (pe_callB call_len_seq (by rfl) T.z_len (by decide +kernel) (pa_cons (pv 0) pa_nil)) (nomark _)) (pss_one (ps_set (i := 2) nd rfl (Or.inl rfl) (pe_callB call_abs (by rfl) T.z_abs (by decide +kernel) (pa_cons (pe_callTy call_int1 (by rfl) T.z_int (by decide +kernel) (pa_cons (pe_ix ix_list (pv 0) (pv 1) (fun _ _ => rfl)) pa_nil)) pa_nil)))) (pss_one (ps_if (pt_cmpR op_gt (pe_callB call_len_seq (by rfl) T.z_len (by decide +kernel) (pa_cons (pv 0) pa_nil)) pe_int (nomark _)) (pss_one (ps_set (i := 2) nd rfl (Or.inl rfl) (pe_op op_add (pv 2) (pe_op op_mul (pe_op op_mod (pe_callTy call_int1 (by rfl) T.z_int (by decide +kernel) (pa_cons (pe_ix ix_list (pv 0) (pe_op op_mod (pe_callTy call_int1 (by rfl) T.z_int (by decide +kernel) (pa_cons (pv 1) pa_nil)) (pe_callB call_len_seq (by rfl) T.z_len (by decide +kernel) (pa_cons (pv 0) pa_nil))) (fun _ _ => rfl)) pa_nil)) pe_int) pe_int)))) pss_nil)))
    (pss_cons (ps_set (i := 3) nd rfl (Or.inl rfl) (pe_op op_add (pe_op op_mod (pe_callTy call_int1 (by rfl) T.z_int (by decide +kernel) (pa_cons (pe_op op_add (pe_op op_add (pe_op op_mul (pe_op op_mod (pe_callTy call_int1 (by rfl) T.z_int (by decide +kernel) (pa_cons (pv 2) pa_nil)) pe_int) pe_int) (pe_op op_mul pe_int (pv 1))) pe_int) pa_nil)) pe_int) pe_int))
    (pss_cons (ps_set (i := 4) nd rfl (Or.inl rfl) (pe_ifExp (pt_cmpR op_ge (pv 2) (pe_op op_pow pe_int pe_int) (nomark _)) (pv 2) pe_int))
    (pss_one (ps_ret (pe_lst (pa_cons (pv 4) (pa_cons (pv 3) (pa_cons pe_int pa_nil)))))))))), ?_⟩
    repeat walk_at "st"
    refine ifB (fun e => ?_) (fun e => ?_)
    · have e := of_decide_eq_true e
      rw [List.length_map] at e
      obtain ⟨z, hz⟩ := ints_at i0 e
      refine ⟨_, rfl, _, rfl, _, _, _, _, rfl, rfl, hS, hz, ?_⟩
      have c0 := natAbs_abs (i := z)
      walk_at "boxtail"
      all_goals
        repeat walk_at "st"
        refine ⟨szL (Nat.le_of_ble_eq_true rfl), fun q hq => ?_⟩
        exact k _ _ (same_new (by assumption)) (by assumption) ⟨_, _, _, upd_same, by first | exact c0 | decide, by walk_at "om", by walk_at "om"⟩
    · repeat walk_at "st"
      refine ifB (fun e1 => ?_) (fun e1 => ?_)
      · have e1 := of_decide_eq_true e1
        repeat walk_at "st"
        rw [List.length_map] at e1
        obtain ⟨z, hz⟩ := ints_at (ns := ns) (k := i % ((ns.map V.int).length : Nat)) (Int.emod_nonneg _ (by rw [List.length_map]; omega)) (by rw [List.length_map]; exact Int.emod_lt_of_pos _ (by omega))
        refine ⟨_, _, _, _, rfl, rfl, hS, hz, ?_⟩
        walk_at "boxtail"
        all_goals
          repeat walk_at "st"
          refine ⟨szL (Nat.le_of_ble_eq_true rfl), fun q hq => ?_⟩
          exact k _ _ (same_new (by assumption)) (by assumption) ⟨_, _, _, upd_same, by walk_at "om", by walk_at "om", by walk_at "om"⟩
      · walk_at "boxtail"
        all_goals
          repeat walk_at "st"
          refine ⟨szL (Nat.le_of_ble_eq_true rfl), fun q hq => ?_⟩
          exact k _ _ (same_new (by assumption)) (by assumption) ⟨_, _, _, upd_same, by walk_at "om", by walk_at "om", by walk_at "om"⟩

/-- one of the items of a list -/
def spPick : Sp := fun vs H Q _ => ∃ (b L : Addr) (xs : List V), vs = [.ref b, .ref L] ∧ Box H b ∧ L ≠ b ∧ H L = some (.lst xs) ∧ 0 < xs.length ∧ xs.length < 1000 ∧
  ∀ (v : V) (H' : Hp), v ∈ xs → Box H' b → But b H H' → Q v H'
theorem ok_pick (T : Txt K mg) : FnOk P w K mg base CX0 2 T.a__law_pick T.d__law_pick ["_law_box_here", "_law_some"] spPick := by
  have G__law_take : FnOk P w K mg base CX0 1 T.a__law_take T.d__law_take ["_law_box_here", "_law_many"] spTake := ok_take T
  refine T.F__law_pick.ok sc__law_pick (fun vs H Q E h => ?_) (fun cdv A outer s H vs Q E hr h => ?_)
  · obtain ⟨b, L, xs, rfl, _⟩ := h
    rfl
  · obtain ⟨b, L, xs, rfl, hB, hne, hL, l0, l1, k⟩ := h
    have nd := sc__law_pick.nd
    refine ⟨_, (pss_one (ps_ret (pe_ix ix_list (pv 1) (pe_call G__law_take (hr.mono (by first | decide | omega)) (by rfl) T.m__law_take T.k__law_take T.b__law_take .nil pass0 (pa_cons (pv 0) (pa_cons (pe_callB call_len_seq (by rfl) T.z_len (by decide +kernel) (pa_cons (pv 1) pa_nil)) pa_nil))) (fun _ _ => rfl)))), ?_⟩
    repeat walk_at "st"
    refine ⟨b, _, rfl, hB, by omega, by omega, fun r H' r0 r1 B' k' => ?_⟩
    obtain ⟨v, hv, hz⟩ := mem_at r0 r1
    exact ⟨_, _, _, _, rfl, rfl, SqL.of (k' _ _ hne hL), hz, k v H' hv B' k'⟩

/-- a drawn form's arguments -/
def spForm : Sp := fun vs H Q _ => ∃ (b : Addr) (far : Int), vs = [.ref b, .int far] ∧ Box H b ∧ 0 < far ∧ far ≤ 1000 ∧
  ∀ (p : Addr) (t q c : Int) (H' : Hp), -1000 ≤ t → t ≤ 1000 → -1000 ≤ q → q ≤ 1000 → 1 ≤ c → c ≤ 3 → p ≠ b → H' p = some (.tup [.int t, .int q, .int c]) → Box H' b → But b H H' → Q (.ref p) H'
theorem ok_form (T : Txt K mg) : FnOk P w K mg base CX0 3 T.a__law_form T.d__law_form ["_law_box_here", "_law_far"] spForm := by
  have G__law_take : FnOk P w K mg base CX0 1 T.a__law_take T.d__law_take ["_law_box_here", "_law_many"] spTake := ok_take T
  have G__law_pick : FnOk P w K mg base CX0 2 T.a__law_pick T.d__law_pick ["_law_box_here", "_law_some"] spPick := ok_pick T
  refine T.F__law_form.ok sc__law_form (fun vs H Q E h => ?_) (fun cdv A outer s H vs Q E hr h => ?_)
  · obtain ⟨b, far, rfl, _⟩ := h
    rfl
  · obtain ⟨b, far, rfl, hB, f0, f1, k⟩ := h
    have nd := sc__law_form.nd
    refine ⟨_, (pss_cons (ps_set (i := 2) nd rfl (Or.inl rfl) (pe_call G__law_pick (hr.mono (by first | decide | omega)) (by rfl) T.m__law_pick T.k__law_pick T.b__law_pick .nil pass0 (pa_cons (pv 0) (pa_cons (pe_lst (pa_cons pe_int (pa_cons pe_int (pa_cons pe_int (pa_cons pe_int (pa_cons pe_int (pa_cons pe_int (pa_cons (pe_op op_sub pe_int pe_int) (pa_cons (pe_op op_sub (pe_call G__law_take (hr.mono (by first | decide | omega)) (by rfl) T.m__law_take T.k__law_take T.b__law_take .nil pass0 (pa_cons (pv 0) (pa_cons (pe_op op_add (pe_op op_mul pe_int (pv 1)) pe_int) pa_nil))) (pv 1)) pa_nil))))))))) pa_nil))))
    (pss_cons (ps_set (i := 3) nd rfl (Or.inl rfl) (pe_call G__law_pick (hr.mono (by first | decide | omega)) (by rfl) T.m__law_pick T.k__law_pick T.b__law_pick .nil pass0 (pa_cons (pv 0) (pa_cons (pe_lst (pa_cons pe_int (pa_cons pe_int (pa_cons (pe_op op_sub pe_int pe_int) (pa_cons pe_int (pa_cons (pe_op op_sub (pe_call G__law_take (hr.mono (by first | decide | omega)) (by rfl) T.m__law_take T.k__law_take T.b__law_take .nil pass0 (pa_cons (pv 0) (pa_cons (pe_op op_add (pe_op op_mul pe_int (pv 1)) pe_int) pa_nil))) (pv 1)) pa_nil)))))) pa_nil))))
    (pss_one (ps_ret (pe_tup (pa_cons (pv 2) (pa_cons (pv 3) (pa_cons (pe_call G__law_pick (hr.mono (by first | decide | omega)) (by rfl) T.m__law_pick T.k__law_pick T.b__law_pick .nil pass0 (pa_cons (pv 0) (pa_cons (pe_lst (pa_cons pe_int (pa_cons pe_int (pa_cons pe_int (pa_cons pe_int (pa_cons pe_int pa_nil)))))) pa_nil))) pa_nil)))))))), ?_⟩
    repeat walk_at "st"
    refine ⟨b, _, rfl, hB, by omega, by omega, fun r1 H1 r10 r11 B1 k1 => ?_⟩
    repeat walk_at "st"
    refine ⟨szL (Nat.le_of_ble_eq_true rfl), fun L1 n1 => ?_⟩
    refine ⟨b, L1, _, rfl, B1.same (same_new n1), B1.ne_none n1, upd_same, by simp, by simp, fun v H2 hv B2 k2 => ?_⟩
    obtain ⟨t, rfl, t0, t1⟩ : ∃ t, v = .int t ∧ -1000 ≤ t ∧ t ≤ 1000 := by
      simp only [List.mem_cons, List.not_mem_nil, or_false] at hv
      rcases hv with h | h | h | h | h | h | h | h <;> exact ⟨_, h, by walk_at "om", by walk_at "om"⟩
    repeat walk_at "st"
    refine ⟨b, _, rfl, B2, by omega, by omega, fun r2 H3 r20 r21 B3 k3 => ?_⟩
    repeat walk_at "st"
    refine ⟨szL (Nat.le_of_ble_eq_true rfl), fun L2 n2 => ?_⟩
    refine ⟨b, L2, _, rfl, B3.same (same_new n2), B3.ne_none n2, upd_same, by simp, by simp, fun v H4 hv B4 k4 => ?_⟩
    obtain ⟨q, rfl, q0, q1⟩ : ∃ t, v = .int t ∧ -1000 ≤ t ∧ t ≤ 1000 := by
      simp only [List.mem_cons, List.not_mem_nil, or_false] at hv
      rcases hv with h | h | h | h | h <;> exact ⟨_, h, by walk_at "om", by walk_at "om"⟩
    repeat walk_at "st"
    refine ⟨szL (Nat.le_of_ble_eq_true rfl), fun L3 n3 => ?_⟩
    refine ⟨b, L3, _, rfl, B4.same (same_new n3), B4.ne_none n3, upd_same, by simp, by simp, fun v H5 hv B5 k5 => ?_⟩
    obtain ⟨c, rfl, c0, c1⟩ : ∃ t, v = .int t ∧ 1 ≤ t ∧ t ≤ 3 := by
      simp only [List.mem_cons, List.not_mem_nil, or_false] at hv
      rcases hv with h | h | h | h | h <;> exact ⟨_, h, by walk_at "om", by walk_at "om"⟩
    refine ⟨szL (Nat.le_of_ble_eq_true rfl), fun p np => ?_⟩
    have kk := (((k1.trans (But.of_same (same_new n1))).trans k2).trans ((k3.trans (But.of_same (same_new n2))).trans k4)).trans ((But.of_same (same_new n3)).trans k5)
    exact k p t q c _ t0 t1 q0 q1 c0 c1 (B5.ne_none np) upd_same (B5.same (same_new np)) (kk.trans (But.of_same (same_new np)))

/-! what is drawn: forms, lanes, blocks -/
def FormD (H : Hp) (v : V) : Prop := ∃ p t q c, v = .ref p ∧ H p = some (.tup [.int t, .int q, .int c]) ∧ 1 ≤ c ∧ c ≤ 3
def ways : List Str := ["up", "down"]
def signs : List Str := ["+", "-"]
def deeds : List Str := ["add", "put"]
def LaneD (H : Hp) (v : V) : Prop := ∃ p x y f z, v = .ref p ∧ H p = some (.tup [.str x, .str y, f, .str z]) ∧ x ∈ ways ∧ y ∈ signs ∧ z ∈ deeds ∧ FormD H f
/-- a drawn block; its list of lanes stands neither at b nor at D -/
def BlockD (b D : Addr) (H : Hp) (v : V) : Prop := ∃ p f L ls, v = .ref p ∧ H p = some (.tup [f, .ref L]) ∧ FormD H f ∧ L ≠ b ∧ L ≠ D ∧ H L = some (.lst ls) ∧ 0 < ls.length ∧ ls.length ≤ 101 ∧ ∀ x ∈ ls, LaneD H x
theorem FormD.fz {H H' : Hp} {v : V} (h : FormD H v) (k : Fz H H') : FormD H' v := by
  obtain ⟨p, t, q, c, e, hp, r⟩ := h
  exact ⟨p, t, q, c, e, k _ _ trivial hp, r⟩
theorem LaneD.fz {H H' : Hp} {v : V} (h : LaneD H v) (k : Fz H H') : LaneD H' v := by
  obtain ⟨p, x, y, f, z, e, hp, h1, h2, h3, h4⟩ := h
  exact ⟨p, x, y, f, z, e, k _ _ trivial hp, h1, h2, h3, h4.fz k⟩
theorem BlockD.same {b D : Addr} {H H' : Hp} {v : V} (h : BlockD b D H v) (k : Same H H') : BlockD b D H' v := by
  obtain ⟨p, f, L, ls, e, hp, h1, n1, n2, hL, l0, l1, q⟩ := h
  exact ⟨p, f, L, ls, e, k _ _ hp, h1.fz (Fz.of_same k), n1, n2, k _ _ hL, l0, l1, fun x hx => (q x hx).fz (Fz.of_same k)⟩
theorem BlockD.but {b D : Addr} {H H' : Hp} {v : V} (h : BlockD b D H v) (B : Box H b) (k : But b H H') : BlockD b D H' v := by
  obtain ⟨p, f, L, ls, e, hp, h1, n1, n2, hL, l0, l1, q⟩ := h
  have z := B.fz k
  exact ⟨p, f, L, ls, e, z _ _ trivial hp, h1.fz z, n1, n2, k _ _ n1 hL, l0, l1, fun x hx => (q x hx).fz z⟩
theorem BlockD.set {b D : Addr} {H : Hp} {v : V} {xs : List V} {o : HO} (h : BlockD b D H v) (e0 : H D = some (.lst xs)) : BlockD b D (upd H D o) v := by
  obtain ⟨p, f, L, ls, e, hp, h1, n1, n2, hL, l0, l1, q⟩ := h
  have z : Fz H (upd H D o) := Fz.lst e0
  exact ⟨p, f, L, ls, e, z _ _ trivial hp, h1.fz z, n1, n2, by rw [upd_ne n2]; exact hL, l0, l1, fun x hx => (q x hx).fz z⟩
theorem BlockD.weak {b D : Addr} {H : Hp} {v : V} (h : BlockD b D H v) : BlockD b b H v := by
  obtain ⟨p, f, L, ls, e, hp, h1, n1, n2, r⟩ := h
  exact ⟨p, f, L, ls, e, hp, h1, n1, n1, r⟩
/-- its list was there when D was not yet -/
theorem BlockD.past {b c D : Addr} {H : Hp} {v : V} (h : BlockD b c H v) (n : H D = none) : BlockD b D H v := by
  obtain ⟨p, f, L, ls, e, hp, h1, n1, n2, hL, r⟩ := h
  exact ⟨p, f, L, ls, e, hp, h1, n1, ne_of_none hL n, hL, r⟩
theorem ne_of_none' {H : Hp} {a l : Addr} {o : HO} (h : H a = some o) (n : H l = none) : l ≠ a := by
  rintro rfl
  rw [n] at h
  cases h
/-! what a display comes to -/
def EvP (te : TE) (σ : L2.St) (H : Hp) (R : Hp → V → Prop) : Prop := ∀ Q : VK, (∀ v H', Same H H' → R H' v → Q v H') → te σ H Q
def EvS (ta : TA) (σ : L2.St) (H : Hp) (R : Hp → List V → Prop) : Prop := ∀ Q : List V → Hp → Prop, (∀ vs H', Same H H' → R H' vs → Q vs H') → ta σ H Q
/-- an integer's display, with its value -/
structure EvI (te : TE) (σ : L2.St) (i : Int) : Prop where
  go : ∀ (H : Hp) (Q : VK), Q (.int i) H → te σ H Q
section
variable {σ : L2.St} {H : Hp}
theorem evi_c {i : Int} : EvI (tC (.int i)) σ i := ⟨fun _ _ q => q⟩
theorem evi_m {i j : Int} : EvI (tOp (rI0 fun i j => .int (i - j)) (tC (.int i)) (tC (.int j))) σ (i - j) := ⟨fun _ _ q => ⟨_, _, rfl, rfl, q⟩⟩
theorem evp_form {a b c : TE} {t q k : Int} (ha : EvI a σ t) (hb : EvI b σ q) (hc : EvI c σ k) (h : 1 ≤ k ∧ k ≤ 3) : EvP (tTup (tCons a (tCons b (tCons c tNil)))) σ H FormD := fun Q g =>
  ha.go _ _ (hb.go _ _ (hc.go _ _ ⟨szL (Nat.le_of_ble_eq_true rfl), fun p np => g _ _ (same_new np) ⟨p, t, q, k, rfl, upd_same, h.1, h.2⟩⟩))
theorem evp_lane {te : TE} {x y z : Str} (hf : EvP te σ H FormD) (hx : x ∈ ways) (hy : y ∈ signs) (hz : z ∈ deeds) : EvP (tTup (tCons (tC (.str x)) (tCons (tC (.str y)) (tCons te (tCons (tC (.str z)) tNil))))) σ H LaneD := fun Q g =>
  hf _ fun f H1 s1 d => ⟨szL (Nat.le_of_ble_eq_true rfl), fun p np => g _ _ (s1.trans (same_new np)) ⟨p, x, y, f, z, rfl, upd_same, hx, hy, hz, d.fz (Fz.new np)⟩⟩
theorem evs_nil : EvS tNil σ H (fun H vs => vs = [] ∧ ∀ x ∈ vs, LaneD H x) := fun Q g => g _ _ (Same.refl _) ⟨rfl, fun x h => nomatch h⟩
theorem ev_cons {te : TE} {ta : TA} {Q : List V → Hp → Prop} {R : Hp → V → Prop} (h : EvP te σ H R) (q : ∀ v H1, Same H H1 → R H1 v → ta σ H1 (fun vs H2 => Q (v :: vs) H2)) : tCons te ta σ H Q := h _ fun v H1 s r => q v H1 s r
theorem ev_lst {ta : TA} {Q : VK} (h : ta σ H (fun vs H1 => vs.length ≤ sizeLine ∧ ∀ l, H1 l = none → Q (.ref l) (upd H1 l (.lst vs)))) : tLst ta σ H Q := h
theorem ev_arg {te : TE} {Q : List V → Hp → Prop} (h : te σ H (fun v H1 => Q [v] H1)) : tCons te tNil σ H Q := h
theorem ev_asg {te : TE} {g : V → L2.St → Hp → (L2.St → Hp → Prop) → Prop} {rest : TS} {D : Ends} (h : te σ H (fun x H1 => g x σ H1 (fun σ2 H2 => rest D σ2 H2))) : tSeq (tAsg te g) rest D σ H := h
def LanesD (H : Hp) (vs : List V) : Prop := 0 < vs.length ∧ vs.length ≤ 100 ∧ ∀ x ∈ vs, LaneD H x
theorem evs_one {te : TE} (h : EvP te σ H LaneD) : EvS (tCons te tNil) σ H LanesD := fun Q q => h _ fun v H1 s d => q _ _ s ⟨by simp, by simp, fun x hx => by
  rw [List.mem_singleton] at hx
  subst hx
  exact d⟩
theorem evs_two {te tf : TE} (h : EvP te σ H LaneD) (h2 : ∀ H', EvP tf σ H' LaneD) : EvS (tCons te (tCons tf tNil)) σ H LanesD := fun Q q => h _ fun v H1 s d => h2 H1 _ fun u H2 s2 d2 => q _ _ (s.trans s2) ⟨by simp, by simp, fun x hx => by
  simp only [List.mem_cons, List.not_mem_nil, or_false] at hx
  rcases hx with rfl | rfl
  · exact d.fz (Fz.of_same s2)
  · exact d2⟩
/-- a block's display: its list is new -/
theorem evp_block {b : Addr} {o : HO} {te : TE} {ta : TA} (hb : H b = some o) (hf : EvP te σ H FormD) (hl : ∀ H', EvS ta σ H' LanesD) : EvP (tTup (tCons te (tCons (tLst ta) tNil))) σ H (fun H' v => ∀ D o, H D = some o → BlockD b D H' v) := fun Q q =>
  hf _ fun f H1 s1 d1 => hl H1 _ fun vs H2 s2 d2 => ⟨szL (by have := d2.2.1; omega), fun l nl => ⟨szL (Nat.le_of_ble_eq_true rfl), fun p np => q _ _ (((s1.trans s2).trans (same_new nl)).trans (same_new np)) fun D o hD =>
    ⟨p, f, l, vs, rfl, upd_same, ((d1.fz (Fz.of_same s2)).fz (Fz.new nl)).fz (Fz.new np), ne_of_none' ((s1.trans s2) _ _ hb) nl, ne_of_none' ((s1.trans s2) _ _ hD) nl, same_new np _ _ upd_same, d2.1, Nat.le_succ_of_le d2.2.1, fun x hx => ((d2.2.2 x hx).fz (Fz.new nl)).fz (Fz.new np)⟩⟩⟩
end
def rListOf (K : PySem.W.Frag) : List V → Hp → VK → Prop := fun xs H Q => ∃ p ys, xs = [.ref p] ∧ (SqL K H p ys ∨ SqT K H p ys) ∧ ∀ l, H l = none → Q (.ref l) (upd H l (.lst ys))
theorem call_listK {X : Cx} {K : PySem.W.Frag} (e : X.K = K) : CallR X (.type "list") (rListOf K) := by
  subst e
  exact call_list_of
theorem cut_take (xs : List V) {n : Int} (h : 0 ≤ n) : cutV xs none (some n) = xs.take n.toNat := by
  obtain ⟨m, rfl⟩ : ∃ m : Nat, n = m := ⟨n.toNat, by omega⟩
  unfold cutV
  rw [HT.sIx_none, HT.sIx_nat, Nat.sub_zero, List.drop_zero, Int.toNat_natCast, ← List.take_eq_take_min]
theorem cut_mem {xs : List V} {lo hi : Option Int} {x : V} (h : x ∈ cutV xs lo hi) : x ∈ xs := List.mem_of_mem_drop (List.mem_of_mem_take h)
theorem call_isiK {X : Cx} {K : PySem.W.Frag} (e : X.K = K) : CallR X (.builtin "isinstance") (rIsi K) := by
  subst e
  exact call_isi
/-- a list or a tuple, walked -/
def iSeqA (K : PySem.W.Frag) (tl : TE) : TI := fun σ H R => tl σ H fun v H1 => ∃ a, v = .ref a ∧ ((∃ xs, SqL K H1 a xs ∧ R (Itl K a) H1) ∨ (∃ xs, SqT K H1 a xs ∧ R (Itt K a) H1))
theorem pi_seqA {X : Cx} {tg l : Expr} {tl : TE} (hl : PE X l tl) : PI X tg l (iSeqA X.K tl) := by
  refine ⟨fun pins s σ H R I h => thn (hl.run pins s σ H _ I h) fun v u res => ?_⟩
  obtain ⟨x, G, J, rx, a, ex, way⟩ := res
  subst ex
  cases rx
  have new : ∀ c ∈ [u.heap.objs.size], FpOk X pins G c := fun c hc => by
    obtain rfl : c = u.heap.objs.size := by simpa using hc
    exact J.fpOk (Nat.le_refl _) (J.hok.fresh (Nat.le_refl _))
  rcases way with ⟨xs, hq, q⟩ | ⟨xs, hq, q⟩
  · obtain ⟨its, rv, p, _⟩ := J.list hq
    refine wpAny_pyIter_list p.isList ⟨u.heap.objs.size, [u.heap.objs.size], _, _, G, rfl, ?_, turn_list a _, ⟨_, Heap.get?_push_size _ rfl, rfl, rfl⟩, new, q⟩
    exact J.kept (t' := u.toks) fun c r z => Heap.get?_push_of_some _ z
  · obtain ⟨its, rv, p, _⟩ := J.tuple hq
    refine wpAny_pyIter_tuple (show u.heap.IsTuple a its.toArray from p) ⟨u.heap.objs.size, [u.heap.objs.size], _, _, G, rfl, ?_, turn_tuple a _, ⟨_, Heap.get?_push_size _ rfl, rfl, rfl⟩, new, q⟩
    exact J.kept (t' := u.toks) fun c r z => Heap.get?_push_of_some _ z

def spLane : Sp := fun vs H Q _ => ∃ (b : Addr) (far : Int), vs = [.ref b, .int far] ∧ Box H b ∧ 0 < far ∧ far ≤ 1000 ∧ ∀ (v : V) (H' : Hp), LaneD H' v → Box H' b → But b H H' → Q v H'
theorem mem3 {x : Str} {v : V} {a b c : Str} {ys : List Str} (h : v ∈ [V.str a, V.str b, V.str c]) (ha : a ∈ ys) (hb : b ∈ ys) (hc : c ∈ ys) : ∃ x, v = .str x ∧ x ∈ ys := by
  simp only [List.mem_cons, List.not_mem_nil, or_false] at h
  rcases h with h | h | h
  · exact ⟨a, h, ha⟩
  · exact ⟨b, h, hb⟩
  · exact ⟨c, h, hc⟩
theorem ok_lane (T : Txt K mg) : FnOk P w K mg base CX0 4 T.a__law_lane T.d__law_lane ["_law_box_here", "_law_far"] spLane := by
  have G__law_pick : FnOk P w K mg base CX0 2 T.a__law_pick T.d__law_pick ["_law_box_here", "_law_some"] spPick := ok_pick T
  have G__law_form : FnOk P w K mg base CX0 3 T.a__law_form T.d__law_form ["_law_box_here", "_law_far"] spForm := ok_form T
  refine T.F__law_lane.ok sc__law_lane (fun vs H Q E h => ?_) (fun cdv A outer s H vs Q E hr h => ?_)
  · obtain ⟨b, far, rfl, _⟩ := h
    rfl
  · obtain ⟨b, far, rfl, hB, f0, f1, k⟩ := h
    have nd := sc__law_lane.nd
    refine ⟨_, (pss_cons (ps_par (i := 2) (j := 3) (by rfl) nd rfl rfl (by decide) rfl rfl (pa_cons (pe_call G__law_pick (hr.mono (by first | decide | omega)) (by rfl) T.m__law_pick T.k__law_pick T.b__law_pick .nil pass0 (pa_cons (pv 0) (pa_cons (pe_lst (pa_cons pe_str (pa_cons pe_str (pa_cons pe_str pa_nil)))) pa_nil))) (pa_cons (pe_call G__law_pick (hr.mono (by first | decide | omega)) (by rfl) T.m__law_pick T.k__law_pick T.b__law_pick .nil pass0 (pa_cons (pv 0) (pa_cons (pe_lst (pa_cons pe_str (pa_cons pe_str (pa_cons pe_str pa_nil)))) pa_nil))) pa_nil)) (by rfl))
    (pss_one (ps_ret (pe_tup (pa_cons (pv 2) (pa_cons (pv 3) (pa_cons (pe_call G__law_form (hr.mono (by first | decide | omega)) (by rfl) T.m__law_form T.k__law_form T.b__law_form .nil pass0 (pa_cons (pv 0) (pa_cons (pv 1) pa_nil))) (pa_cons (pe_call G__law_pick (hr.mono (by first | decide | omega)) (by rfl) T.m__law_pick T.k__law_pick T.b__law_pick .nil pass0 (pa_cons (pv 0) (pa_cons (pe_lst (pa_cons pe_str (pa_cons pe_str (pa_cons pe_str pa_nil)))) pa_nil))) pa_nil)))))))), ?_⟩
    refine ⟨_, rfl, szL (Nat.le_of_ble_eq_true rfl), fun L1 n1 => ?_⟩
    refine ⟨b, L1, _, rfl, hB.same (same_new n1), hB.ne_none n1, upd_same, by simp, by simp, fun v H2 hv B2 k2 => ?_⟩
    obtain ⟨x, rfl, hx⟩ := mem3 (x := "") (ys := ways) hv (by decide) (by decide) (by decide)
    refine ⟨_, rfl, szL (Nat.le_of_ble_eq_true rfl), fun L2 n2 => ?_⟩
    refine ⟨b, L2, _, rfl, B2.same (same_new n2), B2.ne_none n2, upd_same, by simp, by simp, fun v H3 hv B3 k3 => ?_⟩
    obtain ⟨y, rfl, hy⟩ := mem3 (x := "") (ys := signs) hv (by decide) (by decide) (by decide)
    refine ⟨_, _, rfl, ?_⟩
    refine ⟨_, rfl, _, rfl, _, rfl, _, rfl, b, far, rfl, B3, f0, f1, fun p t q c H4 t0 t1 q0 q1 c0 c1 _ hp B4 k4 => ?_⟩
    refine ⟨_, rfl, szL (Nat.le_of_ble_eq_true rfl), fun L3 n3 => ?_⟩
    refine ⟨b, L3, _, rfl, B4.same (same_new n3), B4.ne_none n3, upd_same, by simp, by simp, fun v H5 hv B5 k5 => ?_⟩
    obtain ⟨z, rfl, hz⟩ := mem3 (x := "") (ys := deeds) hv (by decide) (by decide) (by decide)
    refine ⟨szL (Nat.le_of_ble_eq_true rfl), fun pl npl => ?_⟩
    have k15 := (((But.of_same (same_new n1)).trans k2).trans ((But.of_same (same_new n2)).trans k3)).trans ((k4.trans (But.of_same (same_new n3))).trans k5)
    have z4 : Fz H4 H5 := (B4.fz ((But.of_same (same_new n3)).trans k5))
    have fd : FormD H5 (.ref p) := ⟨p, t, q, c, rfl, z4 _ _ trivial hp, c0, c1⟩
    exact k _ _ ⟨pl, x, y, _, z, rfl, upd_same, hx, hy, hz, fd.fz (Fz.new npl)⟩ (B5.same (same_new npl)) (k15.trans (But.of_same (same_new npl)))

/-- values told by their own shape and that of their things -/
def Sh2 (b : Addr) (H : Hp) : V → Prop
  | .ref a => a ≠ b ∧ ∃ xs, (H a = some (.lst xs) ∨ H a = some (.tup xs)) ∧ xs.length ≤ 100 ∧ ∀ x ∈ xs, Sh b H x
  | v => Sh b H v
theorem Sh2.sh {b : Addr} {H : Hp} {v : V} (h : Sh2 b H v) : Sh b H v := by
  cases v with
  | ref a =>
    obtain ⟨n, xs, e | e, _⟩ := h
    · exact ⟨n, .inl ⟨xs, e⟩⟩
    · exact ⟨n, .inr ⟨xs, e⟩⟩
  | _ => exact h
theorem Sh2.but {b : Addr} {H H' : Hp} {v : V} (h : Sh2 b H v) (k : But b H H') : Sh2 b H' v := by
  cases v with
  | ref a =>
    obtain ⟨n, xs, e, l, q⟩ := h
    exact ⟨n, xs, e.imp (k _ _ n) (k _ _ n), l, fun x hx => (q x hx).but k⟩
  | _ => exact h
def spAny (d : Nat) : Sp := fun vs H Q _ => ∃ (b : Addr), vs = [.ref b, .int d] ∧ Box H b ∧ ∀ (v : V) (H' : Hp), Sh2 b H' v → Box H' b → But b H H' → Q v H'
theorem none_ok {f : Addr} {fd : FuncData} {ps : List Str} {k : Nat} : FnOk P w K mg base CX0 k f fd ps (fun _ _ _ _ => False) := ⟨fun _ _ _ _ h => h.elim, fun _ _ _ _ _ _ _ _ _ _ _ _ _ h => h.elim⟩
theorem any_step (T : Txt K mg) (d k : Nat) (hk : 2 ≤ k) (sp : Sp) (G__law_any : FnOk P w K mg base CX0 k T.a__law_any T.d__law_any ["_law_box_here", "_law_deep"] sp)
    (hsp : ∀ d', d = d' + 1 → sp = spAny d') : FnOk P w K mg base CX0 (k + 1) T.a__law_any T.d__law_any ["_law_box_here", "_law_deep"] (spAny d) := by
  have G__law_take : FnOk P w K mg base CX0 1 T.a__law_take T.d__law_take ["_law_box_here", "_law_many"] spTake := ok_take T
  have G__law_pick : FnOk P w K mg base CX0 2 T.a__law_pick T.d__law_pick ["_law_box_here", "_law_some"] spPick := ok_pick T
  refine T.F__law_any.ok sc__law_any (fun vs H Q E h => ?_) (fun cdv A outer s H vs Q E hr h => ?_)
  · obtain ⟨b, rfl, _⟩ := h
    rfl
  · obtain ⟨b, rfl, hB, k⟩ := h
    have nd := sc__law_any.nd
    have hr2 : Room 2 _ := hr.mono hk
    refine ⟨_, (pss_cons (ps_set (i := 2) nd rfl (Or.inl rfl) (pe_call G__law_take (hr.mono (by first | decide | omega)) (by rfl) T.m__law_take T.k__law_take T.b__law_take .nil pass0 (pa_cons (pv 0) (pa_cons pe_int pa_nil))))
    (pss_cons (ps_if (PW.pt (pw_and (pt_cmpR op_lt (pv 2) pe_int (nomark _)) (pw_and1 (pt_cmpR op_gt (pv 1) pe_int (nomark _))))) (pss_cons (ps_setLc (i := 3) (own := [("_law_k", 4)]) (g := (gName 4)) (by rfl) nd rfl rfl (sw_true rfl rfl rfl (by decide +kernel)) (pi_range1 (by rfl) T.z_range (pa_cons (pe_call G__law_take (hr.mono (by first | decide | omega)) (by rfl) T.m__law_take T.k__law_take T.b__law_take .nil pass0 (pa_cons (pv 0) (pa_cons pe_int pa_nil))) pa_nil)) (blkOk_by (N := ["_law_box_here", "_law_deep", "_law_form_here", "_law_some", "_law_k", "_law_words", "_law_plain"]) (sc := defScope s__law_any) (own := [("_law_k", 4)]) (by decide +kernel)) (fun _ _ _ _ _ => by exact (pg_name (i := 4) nd rfl (Or.inl rfl))) (fun _ _ _ _ _ => by exact pts_nil) (fun _ _ _ _ _ => by exact (pe_call G__law_any (hr.mono (by first | decide | omega)) (by rfl) T.m__law_any T.k__law_any T.b__law_any .nil pass0 (pa_cons (pv 0) (pa_cons (pe_op op_sub (pv 1) pe_int) pa_nil)))))
    (pss_one (ps_ret (pe_ifExp (pt_cmpR op_lt (pv 2) pe_int (nomark _)) (pv 3) (pe_callTy call_tuple_of (by rfl) T.z_tuple (by decide +kernel) (pa_cons (pv 3) pa_nil)))))) pss_nil)
    (pss_cons (ps_set (i := 5) nd rfl (Or.inl rfl) (pe_lst (pa_cons pe_str (pa_cons pe_str (pa_cons pe_str (pa_cons pe_str (pa_cons pe_str (pa_cons pe_str (pa_cons pe_str (pa_cons pe_str (pa_cons pe_str (pa_cons pe_str (pa_cons pe_str (pa_cons pe_str (pa_cons pe_str (pa_cons pe_str (pa_cons pe_str pa_nil)))))))))))))))))
    (pss_cons (ps_set (i := 6) nd rfl (Or.inl rfl) (pe_lst (pa_cons pe_non (pa_cons pe_bl (pa_cons pe_bl (pa_cons pe_int (pa_cons pe_int (pa_cons pe_int (pa_cons (pe_op op_sub pe_int pe_int) (pa_cons (pe_op op_sub (pe_op op_pow pe_int pe_int) pe_int) (pa_cons (pe_lst (pa_cons pe_str pa_nil)) (pa_cons (pe_tup (pa_cons pe_int (pa_cons pe_int pa_nil))) (pa_cons pe_int pa_nil)))))))))))))
    (pss_one (ps_ret (pe_ifExp (pt_cmpR op_lt (pv 2) pe_int (nomark _)) (pe_call G__law_pick (hr.mono (by first | decide | omega)) (by rfl) T.m__law_pick T.k__law_pick T.b__law_pick .nil pass0 (pa_cons (pv 0) (pa_cons (pv 5) pa_nil))) (pe_call G__law_pick (hr.mono (by first | decide | omega)) (by rfl) T.m__law_pick T.k__law_pick T.b__law_pick .nil pass0 (pa_cons (pv 0) (pa_cons (pv 6) pa_nil)))))))))), ?_⟩
    refine ⟨_, rfl, b, 14, rfl, hB, by decide, by decide, fun r H1 r0 r1 B1 k1 => ?_⟩
    refine ⟨_, rfl, _, _, rfl, rfl, _, rfl, ifB (fun e1 => ⟨_, rfl, _, _, rfl, rfl, _, rfl, ifB (fun e2 => ?rec) (fun _ => ?t1)⟩) (fun _ => ?t2)⟩
    case rec =>
        have e2 := of_decide_eq_true e2
        obtain ⟨d', rfl⟩ : ∃ d', d = d' + 1 := ⟨d - 1, by omega⟩
        have esp := hsp d' rfl
        subst esp
        refine ⟨_, rfl, b, 3, rfl, B1, by decide, by decide, fun m H2 m0 m1 B2 k2 => ?_⟩
        refine ⟨m, rfl, by omega, by omega, fun D hD => lc_range (fun i H3 => ∃ acc, H3 D = some (.lst acc) ∧ acc.length = i ∧ (∀ x ∈ acc, Sh b H3 x) ∧ Box H3 b ∧ But b H2 H3)
          ⟨[], upd_same, rfl, (fun x h => nomatch h), B2.same (same_new hD), But.of_same (same_new hD)⟩ (fun i H3 hi hP => ?_) (fun H3 hP => ?_)⟩
        · obtain ⟨acc, hA, hl, hacc, B3, k3⟩ := hP
          have neD := B2.ne_none hD
          refine ⟨rfl, _, rfl, _, rfl, _, _, rfl, rfl, b, ?_, B3, fun v H4 hv B4 k4 => ⟨acc, k4 _ _ neD hA, szl (by omega), acc ++ [v], upd_same, by rw [List.length_append, hl]; rfl, (fun x hx => by
            rcases List.mem_append.mp hx with h | h
            · exact ((hacc x h).but k4).set (k4 _ _ neD hA)
            · rw [List.mem_singleton] at h
              subst h
              exact hv.sh.set (k4 _ _ neD hA)), box_ne B4 neD, but_new (k3.trans k4) hD⟩⟩
          show [V.ref b, V.int (((d' + 1 : Nat) : Int) - 1)] = [V.ref b, V.int (d' : Nat)]
          rw [show (((d' + 1 : Nat) : Int) - 1) = (d' : Nat) by omega]
        · obtain ⟨acc, hA, hl, hacc, B3, k3⟩ := hP
          have neD := B2.ne_none hD
          have kk := (k1.trans k2).trans k3
          refine ⟨_, rfl, _, _, rfl, rfl, _, rfl, ifB (fun e3 => ?_) (fun e3 => ?_)⟩
          · exact ⟨_, rfl, k _ _ ⟨neD, acc, .inl hA, by omega, hacc⟩ B3 kk⟩
          · refine ⟨_, rfl, D, acc, rfl, .inl ⟨SqL.of hA, fun l hl' => ?_⟩⟩
            exact k _ _ ⟨B3.ne_none hl', acc, .inr upd_same, by omega, fun x hx => (hacc x hx).but (But.of_same (same_new hl'))⟩ (B3.same (same_new hl')) (kk.trans (But.of_same (same_new hl')))
    all_goals
      refine ⟨szL (Nat.le_of_ble_eq_true rfl), fun W nW => ?_⟩
      have BW := B1.same (same_new (o := .lst [.str "", .str "up", .str "+", .str "add", .str "n", .str "n-1", .str "lost", .str "lacking", .str "0", .str "-", .str "put", .str "rounds n", .str "down", .str "\n", .str "(n)/2"]) nW)
      repeat walk_at "st"
      refine fun p1 np1 => ?_
      have B2 := BW.same (same_new (o := .lst [.str "n"]) np1)
      repeat walk_at "st"
      refine ⟨szL (Nat.le_of_ble_eq_true rfl), fun p2 np2 => ?_⟩
      have B3 := B2.same (same_new (o := .tup [.int 1, .int 2]) np2)
      repeat walk_at "st"
      refine ⟨szL (Nat.le_of_ble_eq_true rfl), fun p3 np3 => ?_⟩
      have B4 := B3.same (same_new (o := .lst [.non, .bl true, .bl false, .int 0, .int 1, .int 2, .int (0 - 1), .int (10 ^ 9 - 1), .ref p1, .ref p2, .int 4]) np3)
      have kk := ((k1.trans (But.of_same (same_new (o := .lst [.str "", .str "up", .str "+", .str "add", .str "n", .str "n-1", .str "lost", .str "lacking", .str "0", .str "-", .str "put", .str "rounds n", .str "down", .str "\n", .str "(n)/2"]) nW))).trans (But.of_same (same_new (o := .lst [.str "n"]) np1))).trans ((But.of_same (same_new (o := .tup [.int 1, .int 2]) np2)).trans (But.of_same (same_new (o := .lst [.non, .bl true, .bl false, .int 0, .int 1, .int 2, .int (0 - 1), .int (10 ^ 9 - 1), .ref p1, .ref p2, .int 4]) np3)))
      have w1 : W ≠ b := B1.ne_none nW
      have p1b : p1 ≠ b := BW.ne_none np1
      have p2b : p2 ≠ b := B2.ne_none np2
      have p3b : p3 ≠ b := B3.ne_none np3
      refine ⟨_, rfl, _, _, rfl, rfl, _, rfl, ifB (fun _ => ?_) (fun _ => ?_)⟩
      · refine' ⟨_, rfl, _, rfl, b, W, _, rfl, B4, w1, ?hW, ?l0, ?l1, fun v H5 hv B5 k5 => k v H5 ?fin B5 (kk.trans k5)⟩
        case hW =>
          rw [upd_ne (ne_of_none (by rw [upd_ne (ne_of_none (by rw [upd_ne (ne_of_none upd_same np1)]; exact upd_same) np2), upd_ne (ne_of_none upd_same np1)]; exact upd_same) np3), upd_ne (ne_of_none (by rw [upd_ne (ne_of_none upd_same np1)]; exact upd_same) np2), upd_ne (ne_of_none upd_same np1)]
          exact upd_same
        case l0 => simp
        case l1 => simp
        case fin =>
          simp only [List.mem_cons, List.not_mem_nil, or_false] at hv
          rcases hv with h | h | h | h | h | h | h | h | h | h | h | h | h | h | h <;> (subst h; trivial)
      · refine ⟨_, rfl, _, rfl, b, p3, _, rfl, B4, p3b, upd_same, by simp, by simp, fun v H5 hv B5 k5 => k v H5 ?_ B5 (kk.trans k5)⟩
        simp only [List.mem_cons, List.not_mem_nil, or_false] at hv
        rcases hv with h | h | h | h | h | h | h | h | h | h | h
        case' inr.inr.inr.inr.inr.inr.inr.inr.inl =>
          subst h
          exact ⟨p1b, _, .inl (k5 _ _ p1b (by rw [upd_ne (ne_of_none (by rw [upd_ne (ne_of_none upd_same np2)]; exact upd_same) np3), upd_ne (ne_of_none upd_same np2)]; exact upd_same)), by simp, fun x hx => by simp at hx; subst hx; trivial⟩
        case' inr.inr.inr.inr.inr.inr.inr.inr.inr.inl =>
          subst h
          exact ⟨p2b, _, .inr (k5 _ _ p2b (by rw [upd_ne (ne_of_none upd_same np3)]; exact upd_same)), by simp, fun x hx => by simp at hx; rcases hx with rfl | rfl <;> trivial⟩
        all_goals (subst h; trivial)
theorem ok_any (T : Txt K mg) : ∀ d : Nat, FnOk P w K mg base CX0 (3 + d) T.a__law_any T.d__law_any ["_law_box_here", "_law_deep"] (spAny d)
  | 0 => any_step T 0 2 (Nat.le_refl _) _ none_ok (fun d' h => by omega)
  | d + 1 => any_step T (d + 1) (3 + d) (by omega) (spAny d) (ok_any T d) (fun d' h => by rw [show d' = d by omega])

end
end K06
namespace K06
open PySem PySem.Spec PyProof.Rows L2 Rs
local macro_rules | `(tactic| walk_at "om") => `(tactic| first | omega | (dsimp only; omega))
local macro_rules | `(tactic| walk_at "side") => `(tactic| first | omega | (dsimp only; omega) | decide | (unfold CMul; omega) | (unfold CDiv; omega) | (unfold CPow; omega) | exact wide_div (b := 64) (by omega) (by omega) (by decide) (by decide))
local macro_rules | `(tactic| walk_at "hp") => `(tactic| first | assumption | exact upd_same)
local macro_rules | `(tactic| walk_at "sq") => `(tactic| first | assumption | exact SqL.of (by assumption) | exact SqL.of upd_same)
local macro_rules | `(tactic| walk_at "st") => `(tactic| first
  | refine ⟨_, rfl, ?_⟩
  | (refine ⟨_, _, rfl, rfl, And.intro ?side ?_⟩; (case side => walk_at "side"))
  | refine ⟨_, _, rfl, rfl, ?_⟩
  | (refine' ⟨_, _, _, _, rfl, rfl, SqL.of ?hp, ?atx, ?_⟩; (case hp => walk_at "hp"); (case atx => exact rfl))
  | (refine' ⟨_, _, _, _, rfl, rfl, ?hp, ?atx, ?_⟩; (case hp => walk_at "hp"); (case atx => exact rfl))
  | (refine' ⟨_, _, rfl, Or.inl ?sq, ?_⟩; (case sq => walk_at "sq"))
  | refine Or.inl ⟨_, rfl, ?_⟩
  | refine Or.inr ⟨_, rfl, ?_⟩)
local macro_rules | `(tactic| walk_at "evd") => `(tactic| first
  | exact evd_int
  | exact evd_str
  | exact evd_non
  | exact evd_bl
  | exact evd_nil
  | (refine evd_cons ?_ (fun _ => ?_) <;> walk_at "evd")
  | (refine evd_tup ?_ (Nat.le_of_ble_eq_true rfl); walk_at "evd"))

section
variable {P : Program} {w : World} {K : PySem.W.Frag} {mg : Str → Option Value} {base : Heap}
/-! what is made: forms, lanes, blocks, plans -/
def InsOf (C : Addr) (H : Hp) (v : V) : Prop := ∃ x dx fs, v = .ref x ∧ H x = some (.ins C dx fs)
theorem InsOf.fz {C : Addr} {H H' : Hp} {v : V} (h : InsOf C H v) (k : Fz H H') : InsOf C H' v := by
  obtain ⟨x, dx, fs, e, hx⟩ := h
  exact ⟨x, dx, fs, e, k _ _ trivial hx⟩
theorem ok_whole (T : Txt K mg) : FnOk P w K mg base CX0 1 T.a_is_whole T.d_is_whole ["value"] spWhole := by
  refine T.F_is_whole.ok sc_is_whole (fun vs H Q E h => ?_) (fun cdv A outer s H vs Q E hr h => ?_)
  · obtain ⟨b, v, rfl, _⟩ := h
    rfl
  · obtain ⟨b, v, rfl, hv, k⟩ := h
    have nd := sc_is_whole.nd
    refine ⟨_, (pss_one (ps_ret (pe_and (pe_callB call_isi (by rfl) T.z_isinstance (by decide +kernel) (pa_cons (pv 0) (pa_cons (pe_bltn (v := .ty "int") (u := .type "int") (by rfl) T.z_int (by decide +kernel) (by exact rfl)) pa_nil))) (pe_one (pe_not (pe_callB call_isi (by rfl) T.z_isinstance (by decide +kernel) (pa_cons (pv 0) (pa_cons (pe_bltn (v := .ty "bool") (u := .type "bool") (by rfl) T.z_bool (by decide +kernel) (by exact rfl)) pa_nil)))))))), ?_⟩
    obtain ⟨t, ty, ki, kb⟩ := hv.ty (K := K)
    refine ⟨_, rfl, _, _, _, _, _, rfl, .ty _, ty, kit_ty ki, _, rfl, ifB (fun e => ?_) (fun e => ?_)⟩
    · refine ⟨_, rfl, _, _, _, _, _, rfl, .ty _, ty, kit_ty kb, _, rfl, ?_⟩
      rw [isInt_bl e]
      exact k
    · show Q (.bl false) H
      rw [isInt_no e]
      exact k
def spFormI (C : Addr) : Sp := fun vs H Q _ => ∃ (x dx : Addr) (t q c : Int), vs = [.ref x, .int t, .int q, .int c] ∧ H x = some (.ins C dx []) ∧ 1 ≤ c ∧ ∀ fs, Q .non (upd H x (.ins C dx fs))
theorem ok_formI (T : Txt K mg) : FnOk P w K mg base CX0 2 T.a_Form___init__ T.d_Form___init__ ["self", "times", "plus", "by"] (spFormI T.c_Form) := by
  have G_is_whole : FnOk P w K mg base CX0 1 T.a_is_whole T.d_is_whole ["value"] spWhole := ok_whole T
  refine T.F_Form___init__.ok sc_Form___init__ (fun vs H Q E h => ?_) (fun cdv A outer s H vs Q E hr h => ?_)
  · obtain ⟨x, dx, t, q, c, rfl, _⟩ := h
    rfl
  · obtain ⟨x, dx, t, q, c, rfl, hx, hc, kn⟩ := h
    have nd := sc_Form___init__.nd
    refine ⟨_, (pss_cons (ps_if (pt_not (pt_val (pe_call G_is_whole (hr.mono (by first | decide | omega)) (by rfl) T.m_is_whole T.k_is_whole T.b_is_whole .nil pass0 (pa_cons (pv 1) pa_nil)))) (pss_one ps_never) pss_nil)
    (pss_cons (ps_if (pt_not (pt_val (pe_call G_is_whole (hr.mono (by first | decide | omega)) (by rfl) T.m_is_whole T.k_is_whole T.b_is_whole .nil pass0 (pa_cons (pv 2) pa_nil)))) (pss_one ps_never) pss_nil)
    (pss_cons (ps_if (PW.pt (pw_or (pt_not (pt_val (pe_call G_is_whole (hr.mono (by first | decide | omega)) (by rfl) T.m_is_whole T.k_is_whole T.b_is_whole .nil pass0 (pa_cons (pv 3) pa_nil)))) (pw_or1 (pt_cmpR op_lt (pv 3) pe_int (nomark _))))) (pss_one ps_never) pss_nil)
    (pss_cons (ps_fld (pv 0) (pv 1) rfl)
    (pss_cons (ps_fld (pv 0) (pv 2) rfl)
    (pss_one (ps_fld (pv 0) (pv 3) rfl))))))), ?_⟩
    refine ⟨_, rfl, x, _, rfl, trivial, _, rfl, ifF rfl ?_⟩
    refine ⟨_, rfl, x, _, rfl, trivial, _, rfl, ifF rfl ?_⟩
    refine ⟨_, rfl, x, _, rfl, trivial, _, rfl, ifF rfl ?_⟩
    refine ⟨_, rfl, _, _, rfl, rfl, _, rfl, ifF (decide_eq_false (by omega)) ?_⟩
    refine ⟨_, rfl, _, rfl, x, T.c_Form, dx, _, rfl, hx, T.C_Form, T.n_Form_times, by decide, ?_⟩
    refine ⟨_, rfl, _, rfl, x, T.c_Form, dx, _, rfl, upd_same, T.C_Form, T.n_Form_plus, by show 1 < 1000; decide, ?_⟩
    refine ⟨_, rfl, _, rfl, x, T.c_Form, dx, _, rfl, upd_same, T.C_Form, T.n_Form_by, by show 2 < 1000; decide, ?_⟩
    show Q .non _
    rw [upd_upd, upd_upd]
    exact kn _
theorem isOne_mem {y : Str} {ys : List Str} (h : y ∈ ys) : isOne ys (.str y) = true := by
  show ys.any (· == y) = true
  rw [List.any_eq_true]
  exact ⟨y, h, by simp⟩
theorem mro_list {K : PySem.W.Frag} {C : Addr} (N : OwnN K C) : PySem.W.kitAny K (.ref C) [.type "list", .type "tuple"] = some false := by
  have h1 : PySem.W.kitOne K (.ref C) (.type "list") = some false := by
    have hm : PySem.W.kitMeta "list" = true := by decide +kernel
    have hs : PySem.W.subIn K (.ref C) (.type "list") = some false := N.li
    unfold PySem.W.kitOne PySem.W.kitCls
    simp [hm, hs]
  have h2 : PySem.W.kitOne K (.ref C) (.type "tuple") = some false := by
    have hm : PySem.W.kitMeta "tuple" = true := by decide +kernel
    have hs : PySem.W.subIn K (.ref C) (.type "tuple") = some false := N.tu
    unfold PySem.W.kitOne PySem.W.kitCls
    simp [hm, hs]
  unfold PySem.W.kitAny
  rw [h1]
  unfold PySem.W.kitAny
  rw [h2]
  rfl
theorem tyx_same {K : PySem.W.Frag} {H H' : Hp} {v : V} {t : Value} (s : Same H H') (h : TyX K H v t) : TyX K H' v t := by
  cases h with
  | base b =>
    cases b with
    | non => exact .base .non
    | bl x => exact .base (.bl x)
    | int x => exact .base (.int x)
    | str x => exact .base (.str x)
    | flt x => exact .base (.flt x)
    | lst e => exact .base (.lst (s _ _ e))
    | frz e => exact .base (.frz (s _ _ e))
    | tup e => exact .base (.tup (s _ _ e))
    | dK e => exact .base (.dK (s _ _ e))
    | dT e => exact .base (.dT (s _ _ e))
    | ins e c ha hn ht hm => exact .base (.ins (s _ _ e) c ha hn ht hm)
  | byt x => exact .byt x
  | set e => exact .set (s _ _ e)
  | kList e c => exact .kList e c
  | kTuple e c => exact .kTuple e c
  | kDict e c => exact .kDict e c
  | fTuple e => exact .fTuple (s _ _ e)
  | fDict e => exact .fDict (s _ _ e)
/-- whether a value is a list or a tuple -/
def spSeq (K : PySem.W.Frag) : Sp := fun vs H Q _ => ∃ (v : V) (t : Value) (r : Bool), vs = [v] ∧ TyX K H v t ∧ PySem.W.kitAny K t [.type "list", .type "tuple"] = some r ∧ ∀ H', Same H H' → Q (.bl r) H'
theorem ok_seq (T : Txt K mg) : FnOk P w K mg base CX0 1 T.a_is_sequence T.d_is_sequence ["value"] (spSeq K) := by
  refine T.F_is_sequence.ok sc_is_sequence (fun vs H Q E h => ?_) (fun cdv A outer s H vs Q E hr h => ?_)
  · obtain ⟨v, t, r, rfl, _⟩ := h
    rfl
  · obtain ⟨v, t, r, rfl, ty, kt, k⟩ := h
    have nd := sc_is_sequence.nd
    refine ⟨_, (pss_one (ps_ret (pe_callB call_isiT (by rfl) T.z_isinstance (by decide +kernel) (pa_cons (pv 0) (pa_cons (pe_tup (pa_cons (pe_bltn (v := .ty "list") (u := .type "list") (by rfl) T.z_list (by decide +kernel) (by exact rfl)) (pa_cons (pe_bltn (v := .ty "tuple") (u := .type "tuple") (by rfl) T.z_tuple (by decide +kernel) (by exact rfl)) pa_nil))) pa_nil))))), ?_⟩
    refine ⟨_, rfl, szL (Nat.le_of_ble_eq_true rfl), fun p np => ?_⟩
    have z : TyX K (upd H p (.tup [.ty "list", .ty "tuple"])) v t := tyx_same (same_new np) ty
    exact ⟨v, p, _, t, _, r, rfl, upd_same, .cons (.ty _) (.cons (.ty _) .nil), z, kt, k _ (same_new np)⟩
theorem kit_seq_list {K : PySem.W.Frag} : PySem.W.kitAny K (.type "list") [.type "list", .type "tuple"] = some true := by
  unfold PySem.W.kitAny
  rw [show PySem.W.kitOne K (.type "list") (.type "list") = some true from by simp [PySem.W.kitOne]]
theorem kit_seq_tup {K : PySem.W.Frag} : PySem.W.kitAny K (.type "tuple") [.type "list", .type "tuple"] = some true := by
  unfold PySem.W.kitAny
  rw [show PySem.W.kitOne K (.type "tuple") (.type "list") = some false from kit_ty (by decide +kernel)]
  unfold PySem.W.kitAny
  rw [show PySem.W.kitOne K (.type "tuple") (.type "tuple") = some true from by simp [PySem.W.kitOne]]
/-- what isinstance(x, C) says of things -/
def IsC (K : PySem.W.Frag) (C : Addr) (H : Hp) (v : V) (r : Bool) : Prop := ∃ t, TyX K H v t ∧ PySem.W.kitOne K t (.ref C) = some r
theorem IsC.same {K : PySem.W.Frag} {C : Addr} {H H' : Hp} {v : V} {r : Bool} (h : IsC K C H v r) (s : Same H H') : IsC K C H' v r := by
  obtain ⟨t, ty, k⟩ := h
  exact ⟨t, tyx_same s ty, k⟩
/-- the answers for a sequence's things, and what comes of them -/
def IsAll (K : PySem.W.Frag) (C : Addr) (H : Hp) : List V → List Bool → Prop
  | [], [] => True
  | v :: vs, r :: rs => IsC K C H v r ∧ IsAll K C H vs rs
  | _, _ => False
theorem IsAll.get {K : PySem.W.Frag} {C : Addr} {H : Hp} : ∀ {vs : List V} {rs : List Bool} {i : Nat} {v : V}, IsAll K C H vs rs → vs[i]? = some v → ∃ r, rs[i]? = some r ∧ IsC K C H v r
  | [], [], i, v, _, e => by simp at e
  | [], _ :: _, _, _, h, _ => h.elim
  | _ :: _, [], _, _, h, _ => h.elim
  | v :: vs, r :: rs, 0, w, h, e => by
    have : v = w := Option.some.inj e
    subst this
    exact ⟨r, rfl, h.1⟩
  | v :: vs, r :: rs, i + 1, w, h, e => by
    have e' := e
    simp only [List.getElem?_cons_succ] at e' ⊢
    exact h.2.get e'
theorem IsAll.length {K : PySem.W.Frag} {C : Addr} {H : Hp} : ∀ {vs : List V} {rs : List Bool}, IsAll K C H vs rs → vs.length = rs.length
  | [], [], _ => rfl
  | [], _ :: _, h => h.elim
  | _ :: _, [], h => h.elim
  | _ :: vs, _ :: rs, h => congrArg (· + 1) h.2.length
theorem szl' {n : Nat} (h : n ≤ 10000) : n < sizeLine := Nat.lt_of_le_of_lt h (by decide)
theorem upd_mid {H : Hp} {x d : Addr} {o1 o2 o3 : HO} (ne : d ≠ x) : upd (upd (upd H x o1) d o2) x o3 = upd (upd H d o2) x o3 := by
  funext a
  by_cases h : a = x
  · subst h
    rw [upd_same, upd_same]
  · rw [upd_ne h, upd_ne h]
    by_cases g : a = d
    · subst g
      rw [upd_same, upd_same]
    · rw [upd_ne g, upd_ne g, upd_ne h]
theorem same_make {H H' : Hp} {x dx : Addr} {o1 o2 o3 : HO} (nx : H x = none) (ndx : H dx = none) (s : Same (upd (upd H dx o1) x o2) H') : Same H (upd H' x o3) := fun a o e => by
  rw [upd_ne (ne_of_none e nx)]
  refine s a o ?_
  rw [upd_ne (ne_of_none e nx), upd_ne (ne_of_none e ndx)]
  exact e
theorem same_made {H : Hp} {x dx : Addr} {o1 o2 o3 : HO} (nx : H x = none) (ndx : H dx = none) : Same H (upd (upd (upd H dx o1) x o2) x o3) := same_make nx ndx (Same.refl _)
theorem same_two {H : Hp} {x dx : Addr} {o1 o2 : HO} (nx : H x = none) (ndx : H dx = none) : Same H (upd (upd H dx o1) x o2) := fun a o e => by
  rw [upd_ne (ne_of_none e nx), upd_ne (ne_of_none e ndx)]
  exact e

/-! lanes of any values: made, or refused with the first wrong one's name -/
def spLF (K : PySem.W.Frag) (CL : Addr) : Sp := fun vs H Q _ => ∃ x dx fs v t, vs = [.ref x, v] ∧ H x = some (.ins CL dx fs) ∧ TyX K H v t ∧ PySem.W.kitOne K t (.ref CL) = some false ∧ Q (.bl false) H
def spNone : Sp := fun _ _ _ _ => False
theorem none_of {f : Addr} {fd : FuncData} {ps : List Str} {k : Nat} : FnOk P w K mg base CX0 k f fd ps spNone := ⟨fun _ _ _ _ h => h.elim, fun _ _ _ _ _ _ _ _ _ _ _ _ _ h => h.elim⟩
theorem ok_leqF (T : Txt K mg) : FnOk P w K mg base CX0 1 T.a_Lane___eq__ T.d_Lane___eq__ ["self", "other"] (spLF K T.c_Lane) := by
  have R_feq : FnR P w K mg base CX0 0 T.a_Form___eq__ spNone := fnR (none_of (ps := ["self", "other"])) T.b_Form___eq__
  refine T.F_Lane___eq__.ok sc_Lane___eq__ (fun vs H Q E h => ?_) (fun cdv A outer s H vs Q E hr h => ?_)
  · obtain ⟨x, dx, fs, v, t, rfl, _⟩ := h
    rfl
  · obtain ⟨x, dx, fs, v, t, rfl, hx, ty, kt, k⟩ := h
    have nd := sc_Lane___eq__.nd
    refine ⟨_, (pss_one (ps_ret (pe_and (pe_callB call_isi (by rfl) T.z_isinstance (by decide +kernel) (pa_cons (pv 1) (pa_cons (pe_glob rfl T.m_Lane (rel_ref _)) pa_nil))) (pe_and (pe_cmpR op_eq (pe_fld (pv 0) rfl) (pe_fld (pv 1) rfl) (nomark _)) (pe_and (pe_cmpR op_eq (pe_fld (pv 0) rfl) (pe_fld (pv 1) rfl) (nomark _)) (pe_and (pe_cmpR (op_eqO T.O_Form R_feq (hr.mono (by decide)) pass0) (pe_fld (pv 0) rfl) (pe_fld (pv 1) rfl) (nomark _)) (pe_one (pe_cmpR op_eq (pe_fld (pv 0) rfl) (pe_fld (pv 1) rfl) (nomark _))))))))), ?_⟩
    exact ⟨_, rfl, _, _, _, _, _, rfl, .own _, ty, kt, _, rfl, ifF rfl k⟩
/-- any value, or a lane -/
def Wv (CL b : Addr) (H : Hp) (v : V) : Prop := Sh b H v ∨ ∃ x dx fs, v = .ref x ∧ H x = some (.ins CL dx fs)
theorem Wv.but {CL b : Addr} {H H' : Hp} {v : V} (h : Wv CL b H v) (B : Box H b) (k : But b H H') : Wv CL b H' v := by
  rcases h with h | ⟨x, dx, fs, e, hx⟩
  · exact .inl (h.but k)
  · exact .inr ⟨x, dx, fs, e, B.fz k _ _ trivial hx⟩
theorem notin_go {K : PySem.W.Frag} {CL b t : Addr} {H : Hp} {v : V} {ys : List Str} {Q : VK} (h : Wv CL b H v) (ht : SqT K H t (ys.map V.str)) (I : OwnI K CL) (q : Q (.bl (!isOne ys v)) H) : rOr (rInSh K true) (rNotInO K CL (spLF K CL) E0) v (.ref t) H Q := by
  rcases h with h | ⟨x, dx, fs, rfl, hx⟩
  · exact .inl ⟨b, t, ys, rfl, ht, h, q⟩
  · refine .inr ⟨x, dx, fs, t, _, rfl, hx, rfl, ht, fun z hz => ?_, q⟩
    obtain ⟨y, _, rfl⟩ := List.mem_map.mp hz
    exact ⟨.inr (.inl ⟨y, rfl⟩), x, dx, fs, .str y, .type "str", rfl, hx, .base (.str y), I.bt .str, rfl, rfl⟩
def laneDue (v0 v1 : V) (f : Bool) (v3 : V) : Option Str :=
  if isOne ways v0 = false then some "way" else if isOne signs v1 = false then some "sign" else if f = false then some "shift" else if isOne deeds v3 = false then some "deed" else none
def fldA (v0 v1 v2 v3 : V) : List (Str × V) := putF "deed" v3 (putF "shift" v2 (putF "sign" v1 (putF "way" v0 [])))
def spLaneA (K : PySem.W.Frag) (CL CF CI : Addr) : Sp := fun vs H Q E => ∃ (x dx b : Addr) (v0 v1 v2 v3 : V) (f : Bool), vs = [.ref x, v0, v1, v2, v3] ∧ H x = some (.ins CL dx []) ∧ Wv CL b H v0 ∧ Wv CL b H v1 ∧ IsC K CF H v2 f ∧ Wv CL b H v3 ∧
  (laneDue v0 v1 f v3 = none → Q .non (upd H x (.ins CL dx (fldA v0 v1 v2 v3)))) ∧
  (∀ wd, laneDue v0 v1 f v3 = some wd → ∀ d, H d = none → E (.ref CI) (some d) (upd H d (.xd [("word", .str wd)])))
theorem ok_excL (T : Txt K mg) : FnOk P w K mg base CX0 1 T.a_InvalidLane___init__ T.d_InvalidLane___init__ ["self", "word"] (spExc T.c_InvalidLane "word") := by
  refine T.F_InvalidLane___init__.ok sc_InvalidLane___init__ (fun vs H Q E h => ?_) (fun cdv A outer s H vs Q E hr h => ?_)
  · obtain ⟨a, v, rfl, _⟩ := h
    rfl
  · obtain ⟨a, v, rfl, ha, k⟩ := h
    refine ⟨_, pss_one (ps_ost (pv 0) (pv 1)), ?_⟩
    exact ⟨_, rfl, _, rfl, a, T.c_InvalidLane, rfl, T.x_InvalidLane, T.n_InvalidLane, .inl ⟨ha, fun dx hd ne => k dx hd ne⟩⟩
theorem ok_laneA (T : Txt K mg) : FnOk P w K mg base (L2.CX P w) 5 T.a_Lane___init__ T.d_Lane___init__ ["self", "way", "sign", "shift", "deed"] (spLaneA K T.c_Lane T.c_Form T.c_InvalidLane) := by
  have GE_InvalidLane : FnOk P w K mg base CX0 1 T.a_InvalidLane___init__ T.d_InvalidLane___init__ ["self", "word"] (spExc T.c_InvalidLane "word") := ok_excL T
  have R_leq : FnR P w K mg base CX0 1 T.a_Lane___eq__ (spLF K T.c_Lane) := fnR (ok_leqF T) T.b_Lane___eq__
  refine T.F_Lane___init__.okX sc_Lane___init__ (fun vs H Q E h => ?_) (fun cdv A outer s H vs Q E hr h => ?_)
  · obtain ⟨x, dx, b, v0, v1, v2, v3, f, rfl, _⟩ := h
    rfl
  · obtain ⟨x, dx, b, v0, v1, v2, v3, f, rfl, hx, h0, h1, ⟨t, ty, kt⟩, h3, kn, ke⟩ := h
    have nd := sc_Lane___init__.nd
    refine ⟨_, (pss_cons (ps_if (pt_cmpR (op_or (op_notInSh hr.units) (op_notInO T.O_Lane T.N_Lane R_leq (hr.mono (by decide)) pass0)) (pv 1) (pe_glob rfl T.m_WAYS (rel_ref _)) (by rfl)) (pss_one (ps_raise rfl (takes_of rfl rfl rfl rfl) (pmk_oex T.x_InvalidLane T.i_InvalidLane T.t_InvalidLane GE_InvalidLane (hr.mono (by first | decide | omega)) T.b_InvalidLane___init__ .nil pass0 (by rfl) T.m_InvalidLane (pa_cons pe_str pa_nil)))) pss_nil)
    (pss_cons (ps_if (pt_cmpR (op_or (op_notInSh hr.units) (op_notInO T.O_Lane T.N_Lane R_leq (hr.mono (by decide)) pass0)) (pv 2) (pe_glob rfl T.m_SIGNS (rel_ref _)) (by rfl)) (pss_one (ps_raise rfl (takes_of rfl rfl rfl rfl) (pmk_oex T.x_InvalidLane T.i_InvalidLane T.t_InvalidLane GE_InvalidLane (hr.mono (by first | decide | omega)) T.b_InvalidLane___init__ .nil pass0 (by rfl) T.m_InvalidLane (pa_cons pe_str pa_nil)))) pss_nil)
    (pss_cons (ps_if (pt_not (pt_val (pe_callB call_isi (by rfl) T.z_isinstance (by decide +kernel) (pa_cons (pv 3) (pa_cons (pe_glob rfl T.m_Form (rel_ref _)) pa_nil))))) (pss_one (ps_raise rfl (takes_of rfl rfl rfl rfl) (pmk_oex T.x_InvalidLane T.i_InvalidLane T.t_InvalidLane GE_InvalidLane (hr.mono (by first | decide | omega)) T.b_InvalidLane___init__ .nil pass0 (by rfl) T.m_InvalidLane (pa_cons pe_str pa_nil)))) pss_nil)
    (pss_cons (ps_if (pt_cmpR (op_or (op_notInSh hr.units) (op_notInO T.O_Lane T.N_Lane R_leq (hr.mono (by decide)) pass0)) (pv 4) (pe_glob rfl T.m_DEEDS (rel_ref _)) (by rfl)) (pss_one (ps_raise rfl (takes_of rfl rfl rfl rfl) (pmk_oex T.x_InvalidLane T.i_InvalidLane T.t_InvalidLane GE_InvalidLane (hr.mono (by first | decide | omega)) T.b_InvalidLane___init__ .nil pass0 (by rfl) T.m_InvalidLane (pa_cons pe_str pa_nil)))) pss_nil)
    (pss_cons (ps_fld (pv 0) (pv 1) rfl)
    (pss_cons (ps_fld (pv 0) (pv 2) rfl)
    (pss_cons (ps_fld (pv 0) (pv 3) rfl)
    (pss_one (ps_fld (pv 0) (pv 4) rfl))))))))), ?_⟩
    unfold laneDue at kn ke
    refine ⟨_, rfl, notin_go (ys := ways) h0 (T.s_WAYS _) T.I_Lane ⟨_, rfl, ?_⟩⟩
    cases e0 : isOne ways v0 with
    | false => exact ifT rfl (make_exc fun d hd => ke "way" (if_pos e0) d hd)
    | true =>
    rw [if_neg (by rw [e0]; simp)] at kn ke
    refine ifF rfl ?_
    refine ⟨_, rfl, notin_go (ys := signs) h1 (T.s_SIGNS _) T.I_Lane ⟨_, rfl, ?_⟩⟩
    cases e1 : isOne signs v1 with
    | false => exact ifT rfl (make_exc fun d hd => ke "sign" (if_pos e1) d hd)
    | true =>
    rw [if_neg (by rw [e1]; simp)] at kn ke
    refine ifF rfl ?_
    refine ⟨_, rfl, _, _, _, _, _, rfl, .own _, ty, kt, _, rfl, ?_⟩
    cases f with
    | false => exact ifT rfl (make_exc fun d hd => ke "shift" (if_pos rfl) d hd)
    | true =>
    rw [if_neg (by simp)] at kn ke
    refine ifF rfl ?_
    refine ⟨_, rfl, notin_go (ys := deeds) h3 (T.s_DEEDS _) T.I_Lane ⟨_, rfl, ?_⟩⟩
    cases e3 : isOne deeds v3 with
    | false => exact ifT rfl (make_exc fun d hd => ke "deed" (if_pos e3) d hd)
    | true =>
    rw [if_neg (by rw [e3]; simp)] at kn ke
    refine ifF rfl ?_
    refine ⟨_, rfl, _, rfl, x, T.c_Lane, dx, _, rfl, hx, T.C_Lane, T.n_Lane_way, by decide, ?_⟩
    refine ⟨_, rfl, _, rfl, x, T.c_Lane, dx, _, rfl, upd_same, T.C_Lane, T.n_Lane_sign, by show 1 < 1000; decide, ?_⟩
    refine ⟨_, rfl, _, rfl, x, T.c_Lane, dx, _, rfl, upd_same, T.C_Lane, T.n_Lane_shift, by show 2 < 1000; decide, ?_⟩
    refine ⟨_, rfl, _, rfl, x, T.c_Lane, dx, _, rfl, upd_same, T.C_Lane, T.n_Lane_deed, by show 3 < 1000; decide, ?_⟩
    show Q .non _
    rw [upd_upd, upd_upd, upd_upd]
    exact kn rfl

end
end K06
namespace K06
open PySem PySem.Spec PyProof.Rows L2 Rs
local macro_rules | `(tactic| walk_at "om") => `(tactic| first | omega | (dsimp only; omega))
local macro_rules | `(tactic| walk_at "side") => `(tactic| first | omega | (dsimp only; omega) | decide | (unfold CMul; omega) | (unfold CDiv; omega) | (unfold CPow; omega) | exact wide_div (b := 64) (by omega) (by omega) (by decide) (by decide))
local macro_rules | `(tactic| walk_at "hp") => `(tactic| first | assumption | exact upd_same)
local macro_rules | `(tactic| walk_at "sq") => `(tactic| first | assumption | exact SqL.of (by assumption) | exact SqL.of upd_same)
local macro_rules | `(tactic| walk_at "st") => `(tactic| first
  | refine ⟨_, rfl, ?_⟩
  | (refine ⟨_, _, rfl, rfl, And.intro ?side ?_⟩; (case side => walk_at "side"))
  | refine ⟨_, _, rfl, rfl, ?_⟩
  | (refine' ⟨_, _, _, _, rfl, rfl, SqL.of ?hp, ?atx, ?_⟩; (case hp => walk_at "hp"); (case atx => exact rfl))
  | (refine' ⟨_, _, _, _, rfl, rfl, ?hp, ?atx, ?_⟩; (case hp => walk_at "hp"); (case atx => exact rfl))
  | (refine' ⟨_, _, rfl, Or.inl ?sq, ?_⟩; (case sq => walk_at "sq"))
  | refine Or.inl ⟨_, rfl, ?_⟩
  | refine Or.inr ⟨_, rfl, ?_⟩)
local macro_rules | `(tactic| walk_at "evd") => `(tactic| first
  | exact evd_int
  | exact evd_str
  | exact evd_non
  | exact evd_bl
  | exact evd_nil
  | (refine evd_cons ?_ (fun _ => ?_) <;> walk_at "evd")
  | (refine evd_tup ?_ (Nat.le_of_ble_eq_true rfl); walk_at "evd"))

section
variable {P : Program} {w : World} {K : PySem.W.Frag} {mg : Str → Option Value} {base : Heap}
/-! blocks of any values: made, or refused with the first wrong one's name -/
/-- a value as a sequence: none, or what isinstance(x, Lane) says of its things -/
def SeqD (K : PySem.W.Frag) (CL : Addr) (H : Hp) (v : V) : Option (List Bool) → Prop
  | none => ∃ t, TyX K H v t ∧ PySem.W.kitAny K t [.type "list", .type "tuple"] = some false
  | some rs => ∃ a xs, v = .ref a ∧ (H a = some (.lst xs) ∨ H a = some (.tup xs)) ∧ xs.length ≤ 1000 ∧ IsAll K CL H xs rs
theorem IsAll.same {K : PySem.W.Frag} {C : Addr} {H H' : Hp} (s : Same H H') : ∀ {vs : List V} {rs : List Bool}, IsAll K C H vs rs → IsAll K C H' vs rs
  | [], [], _ => trivial
  | [], _ :: _, h => h.elim
  | _ :: _, [], h => h.elim
  | _ :: _, _ :: _, h => ⟨h.1.same s, IsAll.same s h.2⟩
theorem SeqD.same {K : PySem.W.Frag} {CL : Addr} {H H' : Hp} {v : V} (s : Same H H') : ∀ {l : Option (List Bool)}, SeqD K CL H v l → SeqD K CL H' v l
  | none, ⟨t, ty, k⟩ => ⟨t, tyx_same s ty, k⟩
  | some _, ⟨a, xs, e, h, l, al⟩ => ⟨a, xs, e, h.imp (s _ _) (s _ _), l, al.same s⟩
def blockDue (f : Bool) (l : Option (List Bool)) : Option Str := if f = false then some "rounds" else match l with
  | none => some "lanes"
  | some rs => if rs = [] ∨ rs.all id = false then some "lanes" else none
def spBlockA (K : PySem.W.Frag) (CB CF CL CI : Addr) : Sp := fun vs H Q E => ∃ (x dx : Addr) (v0 v1 : V) (f : Bool) (l : Option (List Bool)), vs = [.ref x, v0, v1] ∧ H x = some (.ins CB dx []) ∧ IsC K CF H v0 f ∧ SeqD K CL H v1 l ∧
  (blockDue f l = none → ∀ H' fs, Same H H' → Q .non (upd H' x (.ins CB dx fs))) ∧
  (∀ wd, blockDue f l = some wd → ∀ H' d, Same H H' → H' d = none → E (.ref CI) (some d) (upd H' d (.xd [("word", .str wd)])))
theorem ok_excB (T : Txt K mg) : FnOk P w K mg base CX0 1 T.a_InvalidBlock___init__ T.d_InvalidBlock___init__ ["self", "word"] (spExc T.c_InvalidBlock "word") := by
  refine T.F_InvalidBlock___init__.ok sc_InvalidBlock___init__ (fun vs H Q E h => ?_) (fun cdv A outer s H vs Q E hr h => ?_)
  · obtain ⟨a, v, rfl, _⟩ := h
    rfl
  · obtain ⟨a, v, rfl, ha, k⟩ := h
    refine ⟨_, pss_one (ps_ost (pv 0) (pv 1)), ?_⟩
    exact ⟨_, rfl, _, rfl, a, T.c_InvalidBlock, rfl, T.x_InvalidBlock, T.n_InvalidBlock, .inl ⟨ha, fun dx hd ne => k dx hd ne⟩⟩
theorem eh_block {Hc : Hp} {x dx tp CB : Addr} {f : V} {ls : List V} (ntx : tp ≠ x) :
    upd (upd (upd Hc x (.ins CB dx (putF "rounds" f []))) tp (.tup ls)) x (.ins CB dx (putF "lanes" (.ref tp) (putF "rounds" f []))) = upd (upd Hc tp (.tup ls)) x (.ins CB dx (putF "lanes" (.ref tp) (putF "rounds" f []))) := upd_mid ntx
theorem ok_blockA (T : Txt K mg) : FnOk P w K mg base (L2.CX P w) 5 T.a_Block___init__ T.d_Block___init__ ["self", "rounds", "lanes"] (spBlockA K T.c_Block T.c_Form T.c_Lane T.c_InvalidBlock) := by
  have G_is_sequence : FnOk P w K mg base CX0 1 T.a_is_sequence T.d_is_sequence ["value"] (spSeq K) := ok_seq T
  have GE_InvalidBlock : FnOk P w K mg base CX0 1 T.a_InvalidBlock___init__ T.d_InvalidBlock___init__ ["self", "word"] (spExc T.c_InvalidBlock "word") := ok_excB T
  refine T.F_Block___init__.okX sc_Block___init__ (fun vs H Q E h => ?_) (fun cdv A outer s H vs Q E hr h => ?_)
  · obtain ⟨x, dx, v0, v1, f, l, rfl, _⟩ := h
    rfl
  · obtain ⟨x, dx, v0, v1, f, l, rfl, hx, ⟨t, ty, kt⟩, hl, kn, ke⟩ := h
    have nd := sc_Block___init__.nd
    refine ⟨_, (pss_cons (ps_if (pt_not (pt_val (pe_callB call_isi (by rfl) T.z_isinstance (by decide +kernel) (pa_cons (pv 1) (pa_cons (pe_glob rfl T.m_Form (rel_ref _)) pa_nil))))) (pss_one (ps_raise rfl (takes_of rfl rfl rfl rfl) (pmk_oex T.x_InvalidBlock T.i_InvalidBlock T.t_InvalidBlock GE_InvalidBlock (hr.mono (by first | decide | omega)) T.b_InvalidBlock___init__ .nil pass0 (by rfl) T.m_InvalidBlock (pa_cons pe_str pa_nil)))) pss_nil)
    (pss_cons (ps_if (PW.pt (pw_or (pt_not (pt_val (pe_call G_is_sequence (hr.mono (by first | decide | omega)) (by rfl) T.m_is_sequence T.k_is_sequence T.b_is_sequence .nil pass0 (pa_cons (pv 2) pa_nil)))) (pw_or1 (pt_cmpR op_eq (pe_callB call_len_seq (by rfl) T.z_len (by decide +kernel) (pa_cons (pv 2) pa_nil)) pe_int (nomark _))))) (pss_one (ps_raise rfl (takes_of rfl rfl rfl rfl) (pmk_oex T.x_InvalidBlock T.i_InvalidBlock T.t_InvalidBlock GE_InvalidBlock (hr.mono (by first | decide | omega)) T.b_InvalidBlock___init__ .nil pass0 (by rfl) T.m_InvalidBlock (pa_cons pe_str pa_nil)))) pss_nil)
    (pss_cons (ps_if (pt_not (pt_val (pe_callB (cr_all rfl) (by rfl) T.z_all (by decide +kernel) (pa_cons (pe_lc (own := [("lane", 3)]) (g := (gName 3)) (by rfl) nd (pi_seqA (pv 2)) (blkOk_by (N := ["self", "rounds", "lanes", "lane"]) (sc := defScope s_Block___init__) (own := [("lane", 3)]) (by decide +kernel)) (fun _ _ _ _ _ => by exact (pg_name (i := 3) nd rfl (Or.inl rfl))) (fun _ _ _ _ _ => by exact pts_nil) (fun _ _ _ _ _ => by exact (pe_callB (call_isiK (K := K) rfl) (by rfl) T.z_isinstance (by decide +kernel) (pa_cons (pv 3) (pa_cons (pe_glob rfl T.m_Lane (rel_ref _)) pa_nil))))) pa_nil)))) (pss_one (ps_raise rfl (takes_of rfl rfl rfl rfl) (pmk_oex T.x_InvalidBlock T.i_InvalidBlock T.t_InvalidBlock GE_InvalidBlock (hr.mono (by first | decide | omega)) T.b_InvalidBlock___init__ .nil pass0 (by rfl) T.m_InvalidBlock (pa_cons pe_str pa_nil)))) pss_nil)
    (pss_cons (ps_fld (pv 0) (pv 1) rfl)
    (pss_one (ps_fld (pv 0) (pe_callTy call_tuple_of (by rfl) T.z_tuple (by decide +kernel) (pa_cons (pv 2) pa_nil)) rfl)))))), ?_⟩
    unfold blockDue at kn ke
    refine ⟨_, rfl, _, _, _, _, _, rfl, .own _, ty, kt, _, rfl, ?_⟩
    cases f with
    | false => exact ifT rfl (make_exc fun d hd => ke "rounds" (if_pos rfl) _ d (Same.refl _) hd)
    | true =>
    rw [if_neg (by simp)] at kn ke
    refine ifF rfl ?_
    cases l with
    | none =>
      obtain ⟨t1, ty1, kt1⟩ := hl
      refine ⟨_, rfl, _, _, _, rfl, ty1, kt1, fun H1 s1 => ⟨_, rfl, ifT rfl (ifT rfl (make_exc fun d hd => ke "lanes" rfl _ d s1 hd))⟩⟩
    | some rs =>
      obtain ⟨a, xs, rfl, hseq, xl, hall⟩ := hl
      have lx := hall.length
      dsimp only at kn ke
      have lens : xs.length = 0 → ∀ H' d, Same H H' → H' d = none → E (.ref T.c_InvalidBlock) (some d) (upd H' d (.xd [("word", .str "lanes")])) := fun z => ke "lanes" (if_pos (.inl (List.length_eq_zero_iff.mp (lx.symm.trans z))))
      have alls : rs.all id = false → ∀ H' d, Same H H' → H' d = none → E (.ref T.c_InvalidBlock) (some d) (upd H' d (.xd [("word", .str "lanes")])) := fun z => ke "lanes" (if_pos (.inr z))
      have good : xs.length ≠ 0 → rs.all id = true → ∀ H' fs, Same H H' → Q .non (upd H' x (.ins T.c_Block dx fs)) := fun n z => kn (if_neg (by
        rintro (q | q)
        · rw [q] at lx
          exact n lx
        · rw [z] at q
          cases q))
      rcases hseq with ha | ha
      · refine ⟨_, rfl, _, _, _, rfl, .base (.lst ha), kit_seq_list, fun H1 s1 => ⟨_, rfl, ifF rfl ?_⟩⟩
        have ha1 := s1 _ _ ha
        refine ⟨_, rfl, a, _, rfl, .inl (SqL.of ha1), rfl, _, rfl, ?_⟩
        by_cases h0 : xs.length = 0
        · exact ifT (decide_eq_true (by rw [h0]; rfl)) (make_exc fun d hd => lens h0 _ d s1 hd)
        refine ifF (decide_eq_false (fun z => h0 (by injection z with z; omega))) ?_
        refine ⟨_, rfl, a, rfl, .inl ⟨xs, SqL.of ha1, fun D hD => ?_⟩⟩
        refine lc_list (xs := xs) (fun i Hc => Hc D = some (.lst ((rs.take i).map V.bl)) ∧ Same H1 Hc) ⟨upd_same, same_new hD⟩ (fun i Hc _ hP => SqL.of (hP.2 _ _ ha1)) (fun i y Hc hy hP => ?_) (fun Hc hP => ?_)
        · obtain ⟨hDc, sc⟩ := hP
          obtain ⟨r, hr', t, ty, kt⟩ := hall.get hy
          have hn := (List.getElem?_eq_some_iff.mp hy).1
          refine ⟨rfl, _, rfl, _, _, _, _, _, rfl, .own _, tyx_same (s1.trans sc) ty, kt, ?_⟩
          exact ⟨_, hDc, szl' (by rw [List.length_map, List.length_take]; omega), by rw [upd_same, take_snoc hr', List.map_append]; rfl, same_lst sc hD⟩
        · obtain ⟨hDc, sc⟩ := hP
          rw [lx, List.take_length] at hDc
          have sH := s1.trans sc
          refine ⟨D, rs, rfl, SqL.of hDc, _, rfl, ?_⟩
          cases hr : rs.all id with
          | false => exact ifT rfl (make_exc fun d hd => alls hr _ d sH hd)
          | true =>
            refine ifF rfl ?_
            refine ⟨_, rfl, _, rfl, x, T.c_Block, dx, _, rfl, sH _ _ hx, T.C_Block, T.n_Block_rounds, by decide, ?_⟩
            have nax : a ≠ x := fun e => by
              rw [e, hx] at ha
              cases ha
            refine ⟨_, rfl, a, _, rfl, .inl ⟨SqL.of (by rw [upd_ne nax]; exact sH _ _ ha), fun tp ntp => ?_⟩⟩
            have ntx : tp ≠ x := fun e => by
              rw [e, upd_same] at ntp
              cases ntp
            refine ⟨_, rfl, x, T.c_Block, dx, _, rfl, by rw [upd_ne (Ne.symm ntx)]; exact upd_same, T.C_Block, T.n_Block_lanes, by show 1 < 1000; decide, ?_⟩
            rw [upd_ne ntx] at ntp
            show Q .non _
            rw [eh_block ntx]
            exact good h0 hr _ _ (sH.trans (same_new ntp))
      · refine ⟨_, rfl, _, _, _, rfl, .base (.tup ha), kit_seq_tup, fun H1 s1 => ⟨_, rfl, ifF rfl ?_⟩⟩
        have ha1 := s1 _ _ ha
        refine ⟨_, rfl, a, _, rfl, .inr (SqT.of ha1), rfl, _, rfl, ?_⟩
        by_cases h0 : xs.length = 0
        · exact ifT (decide_eq_true (by rw [h0]; rfl)) (make_exc fun d hd => lens h0 _ d s1 hd)
        refine ifF (decide_eq_false (fun z => h0 (by injection z with z; omega))) ?_
        refine ⟨_, rfl, a, rfl, .inr ⟨xs, SqT.of ha1, fun D hD => ?_⟩⟩
        refine lc_tup (xs := xs) (fun i Hc => Hc D = some (.lst ((rs.take i).map V.bl)) ∧ Same H1 Hc) ⟨upd_same, same_new hD⟩ (fun i Hc _ hP => SqT.of (hP.2 _ _ ha1)) (fun i y Hc hy hP => ?_) (fun Hc hP => ?_)
        · obtain ⟨hDc, sc⟩ := hP
          obtain ⟨r, hr', t, ty, kt⟩ := hall.get hy
          have hn := (List.getElem?_eq_some_iff.mp hy).1
          refine ⟨rfl, _, rfl, _, _, _, _, _, rfl, .own _, tyx_same (s1.trans sc) ty, kt, ?_⟩
          exact ⟨_, hDc, szl' (by rw [List.length_map, List.length_take]; omega), by rw [upd_same, take_snoc hr', List.map_append]; rfl, same_lst sc hD⟩
        · obtain ⟨hDc, sc⟩ := hP
          rw [lx, List.take_length] at hDc
          have sH := s1.trans sc
          refine ⟨D, rs, rfl, SqL.of hDc, _, rfl, ?_⟩
          cases hr : rs.all id with
          | false => exact ifT rfl (make_exc fun d hd => alls hr _ d sH hd)
          | true =>
            refine ifF rfl ?_
            refine ⟨_, rfl, _, rfl, x, T.c_Block, dx, _, rfl, sH _ _ hx, T.C_Block, T.n_Block_rounds, by decide, ?_⟩
            have nax : a ≠ x := fun e => by
              rw [e, hx] at ha
              cases ha
            refine ⟨_, rfl, a, _, rfl, .inr ⟨SqT.of (by rw [upd_ne nax]; exact sH _ _ ha), ?_⟩⟩
            refine ⟨_, rfl, x, T.c_Block, dx, _, rfl, upd_same, T.C_Block, T.n_Block_lanes, by show 1 < 1000; decide, ?_⟩
            show Q .non _
            rw [upd_upd]
            exact good h0 hr _ _ sH

end
end K06
namespace K06
open PySem PySem.Spec PyProof.Rows L2 Rs
local macro_rules | `(tactic| walk_at "om") => `(tactic| first | omega | (dsimp only; omega))
local macro_rules | `(tactic| walk_at "side") => `(tactic| first | omega | (dsimp only; omega) | decide | (unfold CMul; omega) | (unfold CDiv; omega) | (unfold CPow; omega) | exact wide_div (b := 64) (by omega) (by omega) (by decide) (by decide))
local macro_rules | `(tactic| walk_at "hp") => `(tactic| first | assumption | exact upd_same)
local macro_rules | `(tactic| walk_at "sq") => `(tactic| first | assumption | exact SqL.of (by assumption) | exact SqL.of upd_same)
local macro_rules | `(tactic| walk_at "st") => `(tactic| first
  | refine ⟨_, rfl, ?_⟩
  | (refine ⟨_, _, rfl, rfl, And.intro ?side ?_⟩; (case side => walk_at "side"))
  | refine ⟨_, _, rfl, rfl, ?_⟩
  | (refine' ⟨_, _, _, _, rfl, rfl, SqL.of ?hp, ?atx, ?_⟩; (case hp => walk_at "hp"); (case atx => exact rfl))
  | (refine' ⟨_, _, _, _, rfl, rfl, ?hp, ?atx, ?_⟩; (case hp => walk_at "hp"); (case atx => exact rfl))
  | (refine' ⟨_, _, rfl, Or.inl ?sq, ?_⟩; (case sq => walk_at "sq"))
  | refine Or.inl ⟨_, rfl, ?_⟩
  | refine Or.inr ⟨_, rfl, ?_⟩)
local macro_rules | `(tactic| walk_at "evd") => `(tactic| first
  | exact evd_int
  | exact evd_str
  | exact evd_non
  | exact evd_bl
  | exact evd_nil
  | (refine evd_cons ?_ (fun _ => ?_) <;> walk_at "evd")
  | (refine evd_tup ?_ (Nat.le_of_ble_eq_true rfl); walk_at "evd"))

section
variable {P : Program} {w : World} {K : PySem.W.Frag} {mg : Str → Option Value} {base : Heap}
/-! the law's own dues -/
def dueV : Option Str → V
  | none => .non
  | some w => .str w
theorem laneDue_ok {y z d : Str} (hy : y ∈ ways) (hz : z ∈ signs) (hd : d ∈ deeds) : laneDue (.str y) (.str z) true (.str d) = none := by
  unfold laneDue
  rw [isOne_mem hy, isOne_mem hz, isOne_mem hd]
  rfl
def spLaneOf (CL CF : Addr) : Sp := fun vs H Q _ => ∃ v, vs = [v] ∧ LaneD H v ∧ ∀ (x dx : Addr) (y z d : Str) (f : V) H', H' x = some (.ins CL dx (fldA (.str y) (.str z) f (.str d))) → y ∈ ways → z ∈ signs → d ∈ deeds → InsOf CF H' f → Same H H' → Q (.ref x) H'
theorem ok_lane_of (T : Txt K mg) : FnOk P w K mg base CX0 8 T.a__law_lane_of T.d__law_lane_of ["_law_lane_here"] (spLaneOf T.c_Lane T.c_Form) := by
  have GI_Form : FnOk P w K mg base CX0 2 T.a_Form___init__ T.d_Form___init__ ["self", "times", "plus", "by"] (spFormI T.c_Form) := ok_formI T
  have GI_Lane : FnOk P w K mg base CX0 5 T.a_Lane___init__ T.d_Lane___init__ ["self", "way", "sign", "shift", "deed"] (quietSp (spLaneA K T.c_Lane T.c_Form T.c_InvalidLane)) := quiet (ok_laneA T)
  refine T.F__law_lane_of.ok sc__law_lane_of (fun vs H Q E h => ?_) (fun cdv A outer s H vs Q E hr h => ?_)
  · obtain ⟨v, rfl, _⟩ := h
    rfl
  · obtain ⟨v, rfl, ⟨p, y, z, f, d, rfl, hp, hy, hz, hd, ⟨pf, t, q, c, rfl, hpf, c0, c1⟩⟩, k⟩ := h
    have nd := sc__law_lane_of.nd
    refine ⟨_, (pss_one (ps_ret (pe_make T.M_Lane GI_Lane (hr.mono (by first | decide | omega)) (by rfl) T.m_Lane T.b_Lane___init__ .nil pass0 (pa_cons (pe_ix ix_tup (pv 0) pe_int (fun _ _ => rfl)) (pa_cons (pe_ix ix_tup (pv 0) pe_int (fun _ _ => rfl)) (pa_cons (pe_make T.M_Form GI_Form (hr.mono (by first | decide | omega)) (by rfl) T.m_Form T.b_Form___init__ .nil pass0 (pa_cons (pe_ix ix_tup (pe_ix ix_tup (pv 0) pe_int (fun _ _ => rfl)) pe_int (fun _ _ => rfl)) (pa_cons (pe_ix ix_tup (pe_ix ix_tup (pv 0) pe_int (fun _ _ => rfl)) pe_int (fun _ _ => rfl)) (pa_cons (pe_ix ix_tup (pe_ix ix_tup (pv 0) pe_int (fun _ _ => rfl)) pe_int (fun _ _ => rfl)) pa_nil)))) (pa_cons (pe_ix ix_tup (pv 0) pe_int (fun _ _ => rfl)) pa_nil))))))), ?_⟩
    refine ⟨_, rfl, _, _, _, _, rfl, rfl, SqT.of hp, rfl, ?_⟩
    refine ⟨_, rfl, _, _, _, _, rfl, rfl, SqT.of hp, rfl, ?_⟩
    refine ⟨_, rfl, _, _, _, _, rfl, rfl, SqT.of hp, rfl, _, _, _, _, rfl, rfl, SqT.of hpf, rfl, ?_⟩
    refine ⟨_, rfl, _, _, _, _, rfl, rfl, SqT.of hp, rfl, _, _, _, _, rfl, rfl, SqT.of hpf, rfl, ?_⟩
    refine ⟨_, rfl, _, _, _, _, rfl, rfl, SqT.of hp, rfl, _, _, _, _, rfl, rfl, SqT.of hpf, rfl, ?_⟩
    refine fun x dx nx ndx ne => ⟨x, dx, t, q, c, rfl, upd_same, c0, fun fs => ⟨rfl, ?_⟩⟩
    have s1 := same_made (o1 := .own x) (o2 := .ins T.c_Form dx []) (o3 := .ins T.c_Form dx fs) nx ndx
    have hx : upd (upd (upd H dx (.own x)) x (.ins T.c_Form dx [])) x (.ins T.c_Form dx fs) x = some (.ins T.c_Form dx fs) := upd_same
    generalize upd (upd (upd H dx (.own x)) x (.ins T.c_Form dx [])) x (.ins T.c_Form dx fs) = H1 at s1 hx
    refine ⟨_, rfl, _, _, _, _, rfl, rfl, SqT.of (s1 _ _ hp), rfl, ?_⟩
    refine fun x2 dx2 nx2 ndx2 ne2 => ⟨x2, dx2, x2, .str y, .str z, .ref x, .str d, true, rfl, upd_same, .inl trivial, .inl trivial, ⟨_, T.I_Form.ty T.C_Form (same_two nx2 ndx2 _ _ hx), kit_self⟩, .inl trivial, fun _ => ⟨rfl, ?_⟩, fun wd hw => ?_⟩
    · have s2 := same_made (o1 := .own x2) (o2 := .ins T.c_Lane dx2 []) (o3 := .ins T.c_Lane dx2 (fldA (.str y) (.str z) (.ref x) (.str d))) nx2 ndx2
      exact k x2 dx2 y z d (.ref x) _ upd_same hy hz hd ⟨x, dx, fs, rfl, s2 _ _ hx⟩ (s1.trans s2)
    · rw [laneDue_ok hy hz hd] at hw
      cases hw
theorem isOne_str {ys : List Str} {v : V} (h : isOne ys v = true) : ∃ y, v = .str y := by
  cases v <;> first | exact ⟨_, rfl⟩ | exact absurd h (by show ¬ (false = true); simp)
def isSt : V → Bool
  | .str _ => true
  | _ => false
theorem Wv.st {K : PySem.W.Frag} {CL b : Addr} {H : Hp} {v : V} (I : OwnI K CL) (C : Cls K CL) (N : OwnN K CL) (h : Wv CL b H v) : ∃ t, TyX K H v t ∧ PySem.W.kitOne K t (.type "str") = some (isSt v) := by
  rcases h with h | ⟨x, dx, fs, rfl, hx⟩
  · cases v with
    | non => exact ⟨_, .base .non, kit_ty (by decide +kernel)⟩
    | bl x => exact ⟨_, .base (.bl x), kit_ty (by decide +kernel : kitB "bool" "str" = some false)⟩
    | int x => exact ⟨_, .base (.int x), kit_ty (by decide +kernel : kitB "int" "str" = some false)⟩
    | str x => exact ⟨_, .base (.str x), kit_ty (by decide +kernel : kitB "str" "str" = some true)⟩
    | ref a =>
      obtain ⟨_, ⟨xs, e⟩ | ⟨xs, e⟩⟩ := h
      · exact ⟨_, .base (.lst e), kit_ty (by decide +kernel : kitB "list" "str" = some false)⟩
      · exact ⟨_, .base (.tup e), kit_ty (by decide +kernel : kitB "tuple" "str" = some false)⟩
    | byt _ => exact h.elim
    | flt _ => exact h.elim
    | ty _ => exact h.elim
  · refine ⟨_, I.ty C hx, ?_⟩
    have hm : PySem.W.kitMeta "str" = true := by decide +kernel
    have hs : PySem.W.subIn K (.ref CL) (.type "str") = some false := N.st
    unfold PySem.W.kitOne PySem.W.kitCls
    simp [hm, hs, isSt]
theorem Wv.same {CL b : Addr} {H H' : Hp} {v : V} (h : Wv CL b H v) (s : Same H H') : Wv CL b H' v := by
  rcases h with h | ⟨x, dx, fs, e, hx⟩
  · exact .inl (h.but (But.of_same s))
  · exact .inr ⟨x, dx, fs, e, s _ _ hx⟩
def spLaneDue (K : PySem.W.Frag) (CL CF : Addr) : Sp := fun vs H Q _ => ∃ (L b : Addr) (v0 v1 v2 v3 : V) (f : Bool), vs = [.ref L] ∧ H L = some (.lst [v0, v1, v2, v3]) ∧ Wv CL b H v0 ∧ Wv CL b H v1 ∧ IsC K CF H v2 f ∧ Wv CL b H v3 ∧ ∀ H', Same H H' → Q (dueV (laneDue v0 v1 f v3)) H'
theorem ok_lane_due (T : Txt K mg) : FnOk P w K mg base CX0 4 T.a__law_lane_due T.d__law_lane_due ["_law_told"] (spLaneDue K T.c_Lane T.c_Form) := by
  have R_leq : FnR P w K mg base CX0 1 T.a_Lane___eq__ (spLF K T.c_Lane) := fnR (ok_leqF T) T.b_Lane___eq__
  refine T.F__law_lane_due.ok sc__law_lane_due (fun vs H Q E h => ?_) (fun cdv A outer s H vs Q E hr h => ?_)
  · obtain ⟨L, b, v0, v1, v2, v3, f, rfl, _⟩ := h
    rfl
  · obtain ⟨L, b, v0, v1, v2, v3, f, rfl, hL, h0, h1, ⟨t, ty, kt⟩, h3, k⟩ := h
    have nd := sc__law_lane_due.nd
    refine ⟨_, (pss_cons (ps_if (PW.pt (pw_or (pt_cmpR (op_or (op_notInSh hr.units) (op_notInO T.O_Lane T.N_Lane R_leq (hr.mono (by decide)) pass0)) (pe_ix ix_seq (pv 0) pe_int (fun _ _ => rfl)) (pe_tup (pa_cons pe_str (pa_cons pe_str pa_nil))) (by rfl)) (pw_or1 (pt_not (pt_val (pe_callB call_isi (by rfl) T.z_isinstance (by decide +kernel) (pa_cons (pe_ix ix_seq (pv 0) pe_int (fun _ _ => rfl)) (pa_cons (pe_bltn (v := .ty "str") (u := .type "str") (by rfl) T.z_str (by decide +kernel) (by exact rfl)) pa_nil)))))))) (pss_one (ps_ret pe_str)) pss_nil)
    (pss_cons (ps_if (PW.pt (pw_or (pt_not (pt_val (pe_callB call_isi (by rfl) T.z_isinstance (by decide +kernel) (pa_cons (pe_ix ix_seq (pv 0) pe_int (fun _ _ => rfl)) (pa_cons (pe_bltn (v := .ty "str") (u := .type "str") (by rfl) T.z_str (by decide +kernel) (by exact rfl)) pa_nil))))) (pw_or1 (pt_cmpR (op_notInSh hr.units) (pe_ix ix_seq (pv 0) pe_int (fun _ _ => rfl)) (pe_tup (pa_cons pe_str (pa_cons pe_str pa_nil))) (by rfl))))) (pss_one (ps_ret pe_str)) pss_nil)
    (pss_cons (ps_if (pt_not (pt_val (pe_callB call_isi (by rfl) T.z_isinstance (by decide +kernel) (pa_cons (pe_ix ix_seq (pv 0) pe_int (fun _ _ => rfl)) (pa_cons (pe_glob rfl T.m_Form (rel_ref _)) pa_nil))))) (pss_one (ps_ret pe_str)) pss_nil)
    (pss_one (ps_ret (pe_ifExp (PW.pt (pw_and (pt_val (pe_callB call_isi (by rfl) T.z_isinstance (by decide +kernel) (pa_cons (pe_ix ix_seq (pv 0) pe_int (fun _ _ => rfl)) (pa_cons (pe_bltn (v := .ty "str") (u := .type "str") (by rfl) T.z_str (by decide +kernel) (by exact rfl)) pa_nil)))) (pw_and1 (pt_cmpR (op_inSh hr.units) (pe_ix ix_seq (pv 0) pe_int (fun _ _ => rfl)) (pe_tup (pa_cons pe_str (pa_cons pe_str pa_nil))) (by rfl))))) pe_non pe_str)))))), ?_⟩
    unfold laneDue at k
    refine seqif_go (or_go (tst_go ?_))
    refine ⟨_, rfl, .inl ⟨L, _, 0, v0, rfl, rfl, SqL.of hL, rfl, ?_⟩⟩
    refine ⟨szL (Nat.le_of_ble_eq_true rfl), fun p np => ?_⟩
    have s1 := same_new (H := H) (o := .tup [.str (Str.ofString "up"), .str (Str.ofString "down")]) np
    have hp : upd H p (.tup [.str (Str.ofString "up"), .str (Str.ofString "down")]) p = some (.tup (ways.map V.str)) := upd_same
    refine notin_go (ys := ways) (h0.same s1) (SqT.of hp) T.I_Lane ?_
    generalize upd H p (.tup [.str (Str.ofString "up"), .str (Str.ofString "down")]) = H1 at s1 hp ⊢
    refine ⟨_, rfl, ?_⟩
    cases e0 : isOne ways v0 with
    | false =>
      refine ifT rfl ?_
      have kk := k _ s1
      rw [if_pos e0] at kk
      exact kk
    | true =>
    rw [if_neg (by rw [e0]; simp)] at k
    obtain ⟨y0, rfl⟩ := isOne_str e0
    refine ifF rfl ?_
    have hL1 := s1 _ _ hL
    have kSt : PySem.W.kitOne K (.type "str") (.type "str") = some true := kit_ty (by decide +kernel)
    refine ⟨_, rfl, .inl ⟨L, _, 0, .str y0, rfl, rfl, SqL.of hL1, rfl, _, _, _, _, _, rfl, .ty _, .base (.str y0), kSt, _, rfl, ifF rfl ?_⟩⟩
    dsimp only [tNext]
    refine seqif_go (or_go ?_)
    obtain ⟨t1, ty1, kt1⟩ := (h1.same s1).st T.I_Lane T.C_Lane T.N_Lane (K := K)
    refine ⟨_, rfl, .inl ⟨L, _, 1, v1, rfl, rfl, SqL.of hL1, rfl, _, _, _, _, _, rfl, .ty _, ty1, kt1, _, rfl, ?_⟩⟩
    by_cases st1 : ∃ y1, v1 = .str y1
    case neg =>
      have e : isSt v1 = false := by
        cases v1 <;> first | rfl | exact absurd ⟨_, rfl⟩ st1
      have e1 : isOne signs v1 = false := by
        cases z : isOne signs v1 with
        | false => rfl
        | true => exact absurd (isOne_str z) st1
      rw [e]
      refine ifT rfl ?_
      have kk := k _ s1
      rw [if_pos e1] at kk
      exact kk
    obtain ⟨y1, rfl⟩ := st1
    refine ifF rfl ?_
    refine tst_go ?_
    refine ⟨_, rfl, .inl ⟨L, _, 1, .str y1, rfl, rfl, SqL.of hL1, rfl, ?_⟩⟩
    refine ⟨szL (Nat.le_of_ble_eq_true rfl), fun p2 np2 => ⟨b, p2, signs, rfl, SqT.of upd_same, trivial, _, rfl, ?_⟩⟩
    have s2 := s1.trans (same_new (o := .tup [.str (Str.ofString "+"), .str (Str.ofString "-")]) np2)
    have hL2 := s2 _ _ hL
    show if (!isOne signs (.str y1)) = true then _ else _
    generalize upd H1 p2 (.tup [.str (Str.ofString "+"), .str (Str.ofString "-")]) = H2 at s2 hL2 ⊢
    cases e1 : isOne signs (.str y1) with
    | false =>
      refine ifT rfl ?_
      have kk := k _ s2
      rw [if_pos e1] at kk
      exact kk
    | true =>
    rw [if_neg (by rw [e1]; simp)] at k
    refine ifF rfl ?_
    dsimp only [tNext]
    refine seqif_go ?_
    refine ⟨_, rfl, .inl ⟨L, _, 2, v2, rfl, rfl, SqL.of hL2, rfl, _, _, _, _, _, rfl, .own _, tyx_same s2 ty, kt, _, rfl, ?_⟩⟩
    cases f with
    | false =>
      refine ifT rfl ?_
      exact k _ s2
    | true =>
    rw [if_neg (by simp)] at k
    refine ifF rfl ?_
    dsimp only [tNext]
    refine ret_go ?_
    obtain ⟨t3, ty3, kt3⟩ := (h3.same s2).st T.I_Lane T.C_Lane T.N_Lane (K := K)
    refine ⟨_, rfl, .inl ⟨L, _, 3, v3, rfl, rfl, SqL.of hL2, rfl, _, _, _, _, _, rfl, .ty _, ty3, kt3, _, rfl, ?_⟩⟩
    by_cases st3 : ∃ y3, v3 = .str y3
    case neg =>
      have e : isSt v3 = false := by
        cases v3 <;> first | rfl | exact absurd ⟨_, rfl⟩ st3
      have e3 : isOne deeds v3 = false := by
        cases z : isOne deeds v3 with
        | false => rfl
        | true => exact absurd (isOne_str z) st3
      rw [e]
      refine ifF rfl ?_
      have kk := k _ s2
      rw [if_pos e3] at kk
      exact kk
    obtain ⟨y3, rfl⟩ := st3
    refine ifT rfl ?_
    refine ⟨_, rfl, .inl ⟨L, _, 3, .str y3, rfl, rfl, SqL.of hL2, rfl, ?_⟩⟩
    refine ⟨szL (Nat.le_of_ble_eq_true rfl), fun p3 np3 => ⟨b, p3, deeds, rfl, SqT.of upd_same, trivial, _, rfl, ?_⟩⟩
    have s3 := s2.trans (same_new (o := .tup [.str (Str.ofString "add"), .str (Str.ofString "put")]) np3)
    show if isOne deeds (.str y3) = true then _ else _
    have kk := k _ s3
    cases e3 : isOne deeds (.str y3) with
    | false =>
      rw [if_pos e3] at kk
      exact ifF rfl kk
    | true =>
      rw [if_neg (by rw [e3]; simp)] at kk
      exact ifT rfl kk

end
end K06
namespace K06
open PySem PySem.Spec PyProof.Rows L2 Rs
local macro_rules | `(tactic| walk_at "om") => `(tactic| first | omega | (dsimp only; omega))
local macro_rules | `(tactic| walk_at "side") => `(tactic| first | omega | (dsimp only; omega) | decide | (unfold CMul; omega) | (unfold CDiv; omega) | (unfold CPow; omega) | exact wide_div (b := 64) (by omega) (by omega) (by decide) (by decide))
local macro_rules | `(tactic| walk_at "hp") => `(tactic| first | assumption | exact upd_same)
local macro_rules | `(tactic| walk_at "sq") => `(tactic| first | assumption | exact SqL.of (by assumption) | exact SqL.of upd_same)
local macro_rules | `(tactic| walk_at "st") => `(tactic| first
  | refine ⟨_, rfl, ?_⟩
  | (refine ⟨_, _, rfl, rfl, And.intro ?side ?_⟩; (case side => walk_at "side"))
  | refine ⟨_, _, rfl, rfl, ?_⟩
  | (refine' ⟨_, _, _, _, rfl, rfl, SqL.of ?hp, ?atx, ?_⟩; (case hp => walk_at "hp"); (case atx => exact rfl))
  | (refine' ⟨_, _, _, _, rfl, rfl, ?hp, ?atx, ?_⟩; (case hp => walk_at "hp"); (case atx => exact rfl))
  | (refine' ⟨_, _, rfl, Or.inl ?sq, ?_⟩; (case sq => walk_at "sq"))
  | refine Or.inl ⟨_, rfl, ?_⟩
  | refine Or.inr ⟨_, rfl, ?_⟩)
local macro_rules | `(tactic| walk_at "evd") => `(tactic| first
  | exact evd_int
  | exact evd_str
  | exact evd_non
  | exact evd_bl
  | exact evd_nil
  | (refine evd_cons ?_ (fun _ => ?_) <;> walk_at "evd")
  | (refine evd_tup ?_ (Nat.le_of_ble_eq_true rfl); walk_at "evd"))

section
variable {P : Program} {w : World} {K : PySem.W.Frag} {mg : Str → Option Value} {base : Heap}
def spBlockDue (K : PySem.W.Frag) (CL CF : Addr) : Sp := fun vs H Q _ => ∃ (L : Addr) (v0 v1 : V) (f : Bool) (l : Option (List Bool)), vs = [.ref L] ∧ H L = some (.lst [v0, v1]) ∧ IsC K CF H v0 f ∧ SeqD K CL H v1 l ∧ ∀ H', Same H H' → Q (dueV (blockDue f l)) H'
theorem un1 {k : Nat} {A : Around} (r : Room k A) : A.units + 1 < cLine := by
  have := r.un
  omega
theorem ok_block_due (T : Txt K mg) : FnOk P w K mg base CX0 4 T.a__law_block_due T.d__law_block_due ["_law_told"] (spBlockDue K T.c_Lane T.c_Form) := by
  refine T.F__law_block_due.ok sc__law_block_due (fun vs H Q E h => ?_) (fun cdv A outer s H vs Q E hr h => ?_)
  · obtain ⟨L, v0, v1, f, l, rfl, _⟩ := h
    rfl
  · obtain ⟨L, v0, v1, f, l, rfl, hL, ⟨t, ty, kt⟩, hl, k⟩ := h
    have nd := sc__law_block_due.nd
    refine ⟨_, (pss_cons (ps_if (pt_not (pt_val (pe_callB (call_isiK (K := K) rfl) (by rfl) T.z_isinstance (by decide +kernel) (pa_cons (pe_ix ix_seq (pv 0) pe_int (fun _ _ => rfl)) (pa_cons (pe_glob rfl T.m_Form (rel_ref _)) pa_nil))))) (pss_one (ps_ret pe_str)) pss_nil)
    (pss_cons (ps_if (PW.pt (pw_or (pt_not (pt_val (pe_callB call_isiT (by rfl) T.z_isinstance (by decide +kernel) (pa_cons (pe_ix ix_seq (pv 0) pe_int (fun _ _ => rfl)) (pa_cons (pe_tup (pa_cons (pe_bltn (v := .ty "list") (u := .type "list") (by rfl) T.z_list (by decide +kernel) (by exact rfl)) (pa_cons (pe_bltn (v := .ty "tuple") (u := .type "tuple") (by rfl) T.z_tuple (by decide +kernel) (by exact rfl)) pa_nil))) pa_nil))))) (pw_or1 (pt_cmpR op_eq (pe_callB call_len_seq (by rfl) T.z_len (by decide +kernel) (pa_cons (pe_ix ix_seq (pv 0) pe_int (fun _ _ => rfl)) pa_nil)) pe_int (nomark _))))) (pss_one (ps_ret pe_str)) pss_nil)
    (pss_one (ps_ret (pe_ifExp (pt_cmpR (op_eqNil (un1 hr)) (pe_lc (own := [("_law_one", 1)]) (g := (gName 1)) (by rfl) nd (pi_seqA (pe_ix ix_seq (pv 0) pe_int (fun _ _ => rfl))) (blkOk_by (N := ["_law_told", "_law_one"]) (sc := defScope s__law_block_due) (own := [("_law_one", 1)]) (by decide +kernel)) (fun _ _ _ _ _ => by exact (pg_name (i := 1) nd rfl (Or.inl rfl))) (fun _ _ _ _ _ => by exact pts_one (pt_not (pt_val (pe_callB (call_isiK (K := K) rfl) (by rfl) T.z_isinstance (by decide +kernel) (pa_cons (pv 1) (pa_cons (pe_glob rfl T.m_Lane (rel_ref _)) pa_nil)))))) (fun _ _ _ _ _ => by exact (pv 1))) (pe_lst pa_nil) (nomark _)) pe_non pe_str))))), ?_⟩
    unfold blockDue at k
    refine seqif_go ?_
    refine ⟨_, rfl, .inl ⟨L, _, 0, v0, rfl, rfl, SqL.of hL, rfl, _, _, _, _, _, rfl, .own _, ty, kt, _, rfl, ?_⟩⟩
    cases f with
    | false =>
      refine ifT rfl ?_
      exact k _ (Same.refl _)
    | true =>
    rw [if_neg (by simp)] at k
    refine ifF rfl ?_
    dsimp only [tNext]
    refine seqif_go (or_go ?_)
    refine ⟨_, rfl, .inl ⟨L, _, 1, v1, rfl, rfl, SqL.of hL, rfl, ?_⟩⟩
    refine ⟨szL (Nat.le_of_ble_eq_true rfl), fun tp ntp => ?_⟩
    have s1 := same_new (H := H) (o := .tup [.ty "list", .ty "tuple"]) ntp
    have htp : upd H tp (.tup [.ty "list", .ty "tuple"]) tp = some (.tup [.ty "list", .ty "tuple"]) := upd_same
    generalize upd H tp (.tup [.ty "list", .ty "tuple"]) = H1 at s1 htp ⊢
    have hL1 := s1 _ _ hL
    cases l with
    | none =>
      obtain ⟨t1, ty1, kt1⟩ := hl
      refine ⟨v1, tp, _, t1, _, _, rfl, htp, .cons (.ty _) (.cons (.ty _) .nil), tyx_same s1 ty1, kt1, _, rfl, ?_⟩
      refine ifT rfl ?_
      exact k _ s1
    | some rs =>
      obtain ⟨a, xs, rfl, hseq, xl, hall⟩ := hl
      have lx := hall.length
      dsimp only at k
      have no0 : xs.length = 0 → ∀ H', Same H H' → Q (.str "lanes") H' := fun z H' s' => by
        have kk := k H' s'
        rw [if_pos (.inl (List.length_eq_zero_iff.mp (lx.symm.trans z)))] at kk
        exact kk
      have fin : xs.length ≠ 0 → ∀ H', Same H H' → Q (if rs.all id = true then .non else .str "lanes") H' := fun z H' s' => by
        have kk := k H' s'
        have n0 : rs ≠ [] := fun q => by
          rw [q] at lx
          exact z lx
        cases e : rs.all id with
        | true =>
          rw [if_neg (by rintro (q | q); exact n0 q; rw [e] at q; cases q)] at kk
          exact kk
        | false =>
          rw [if_pos (.inr e)] at kk
          exact kk
      rcases hseq with ha | ha
      · have ha1 := s1 _ _ ha
        refine ⟨.ref a, tp, _, _, _, _, rfl, htp, .cons (.ty _) (.cons (.ty _) .nil), .base (.lst ha1), kit_seq_list, _, rfl, ifF rfl ?_⟩
        refine tst_go ?_
        refine ⟨_, rfl, .inl ⟨L, _, 1, .ref a, rfl, rfl, SqL.of hL1, rfl, ?_⟩⟩
        refine ⟨a, _, rfl, .inl (SqL.of ha1), rfl, _, rfl, ?_⟩
        by_cases h0 : xs.length = 0
        · exact ifT (decide_eq_true (by rw [h0]; rfl)) (no0 h0 _ s1)
        refine ifF (decide_eq_false (fun z => h0 (by injection z with z; omega))) ?_
        dsimp only [tNext]
        refine ret_go ?_
        refine ⟨_, rfl, .inl ⟨L, _, 1, .ref a, rfl, rfl, SqL.of hL1, rfl, ?_⟩⟩
        refine ⟨a, rfl, .inl ⟨xs, SqL.of ha1, fun D hD => ?_⟩⟩
        refine lc_list (xs := xs) (fun i Hc => (∃ acc, Hc D = some (.lst acc) ∧ acc.isEmpty = (rs.take i).all id ∧ acc.length ≤ i) ∧ Same H1 Hc) ⟨⟨[], upd_same, rfl, Nat.le_refl _⟩, same_new hD⟩ (fun i Hc _ hP => SqL.of (hP.2 _ _ ha1)) (fun i y Hc hy hP => ?_) (fun Hc hP => ?_)
        · obtain ⟨⟨acc, hDc, hem, hle⟩, sc⟩ := hP
          obtain ⟨r, hr', t, ty, kt⟩ := hall.get hy
          have hn := (List.getElem?_eq_some_iff.mp hy).1
          refine ⟨rfl, _, rfl, _, _, _, _, _, rfl, .own _, tyx_same (s1.trans sc) ty, kt, _, rfl, ?_⟩
          cases r with
          | true =>
            refine ifF rfl ?_
            exact ⟨⟨acc, hDc, by rw [take_snoc hr', List.all_append, hem]; simp, by omega⟩, sc⟩
          | false =>
            refine ifT rfl ?_
            refine ⟨_, rfl, _, hDc, szl' (by omega), ⟨acc ++ [y], upd_same, by rw [take_snoc hr', List.all_append]; simp, by rw [List.length_append, List.length_singleton]; omega⟩, same_lst sc hD⟩
        · obtain ⟨⟨acc, hDc, hem, hle⟩, sc⟩ := hP
          rw [lx, List.take_length] at hem
          refine ⟨szL (Nat.le_of_ble_eq_true rfl), fun l2 n2 => ?_⟩
          have t2 := same_new (o := .lst []) n2
          refine ⟨D, l2, acc, rfl, rfl, SqL.of (t2 _ _ hDc), SqL.of upd_same, _, rfl, ?_⟩
          rw [hem]
          have kk := fin h0 _ (s1.trans (sc.trans t2))
          cases e : rs.all id with
          | true =>
            rw [if_pos e] at kk
            exact ifT rfl kk
          | false =>
            rw [if_neg (by rw [e]; simp)] at kk
            exact ifF rfl kk
      · have ha1 := s1 _ _ ha
        refine ⟨.ref a, tp, _, _, _, _, rfl, htp, .cons (.ty _) (.cons (.ty _) .nil), .base (.tup ha1), kit_seq_tup, _, rfl, ifF rfl ?_⟩
        refine tst_go ?_
        refine ⟨_, rfl, .inl ⟨L, _, 1, .ref a, rfl, rfl, SqL.of hL1, rfl, ?_⟩⟩
        refine ⟨a, _, rfl, .inr (SqT.of ha1), rfl, _, rfl, ?_⟩
        by_cases h0 : xs.length = 0
        · exact ifT (decide_eq_true (by rw [h0]; rfl)) (no0 h0 _ s1)
        refine ifF (decide_eq_false (fun z => h0 (by injection z with z; omega))) ?_
        dsimp only [tNext]
        refine ret_go ?_
        refine ⟨_, rfl, .inl ⟨L, _, 1, .ref a, rfl, rfl, SqL.of hL1, rfl, ?_⟩⟩
        refine ⟨a, rfl, .inr ⟨xs, SqT.of ha1, fun D hD => ?_⟩⟩
        refine lc_tup (xs := xs) (fun i Hc => (∃ acc, Hc D = some (.lst acc) ∧ acc.isEmpty = (rs.take i).all id ∧ acc.length ≤ i) ∧ Same H1 Hc) ⟨⟨[], upd_same, rfl, Nat.le_refl _⟩, same_new hD⟩ (fun i Hc _ hP => SqT.of (hP.2 _ _ ha1)) (fun i y Hc hy hP => ?_) (fun Hc hP => ?_)
        · obtain ⟨⟨acc, hDc, hem, hle⟩, sc⟩ := hP
          obtain ⟨r, hr', t, ty, kt⟩ := hall.get hy
          have hn := (List.getElem?_eq_some_iff.mp hy).1
          refine ⟨rfl, _, rfl, _, _, _, _, _, rfl, .own _, tyx_same (s1.trans sc) ty, kt, _, rfl, ?_⟩
          cases r with
          | true =>
            refine ifF rfl ?_
            exact ⟨⟨acc, hDc, by rw [take_snoc hr', List.all_append, hem]; simp, by omega⟩, sc⟩
          | false =>
            refine ifT rfl ?_
            refine ⟨_, rfl, _, hDc, szl' (by omega), ⟨acc ++ [y], upd_same, by rw [take_snoc hr', List.all_append]; simp, by rw [List.length_append, List.length_singleton]; omega⟩, same_lst sc hD⟩
        · obtain ⟨⟨acc, hDc, hem, hle⟩, sc⟩ := hP
          rw [lx, List.take_length] at hem
          refine ⟨szL (Nat.le_of_ble_eq_true rfl), fun l2 n2 => ?_⟩
          have t2 := same_new (o := .lst []) n2
          refine ⟨D, l2, acc, rfl, rfl, SqL.of (t2 _ _ hDc), SqL.of upd_same, _, rfl, ?_⟩
          rw [hem]
          have kk := fin h0 _ (s1.trans (sc.trans t2))
          cases e : rs.all id with
          | true =>
            rw [if_pos e] at kk
            exact ifT rfl kk
          | false =>
            rw [if_neg (by rw [e]; simp)] at kk
            exact ifF rfl kk

end
end K06
namespace K06
open PySem PySem.Spec PyProof.Rows L2 Rs
local macro_rules | `(tactic| walk_at "om") => `(tactic| first | omega | (dsimp only; omega))
local macro_rules | `(tactic| walk_at "side") => `(tactic| first | omega | (dsimp only; omega) | decide | (unfold CMul; omega) | (unfold CDiv; omega) | (unfold CPow; omega) | exact wide_div (b := 64) (by omega) (by omega) (by decide) (by decide))
local macro_rules | `(tactic| walk_at "hp") => `(tactic| first | assumption | exact upd_same)
local macro_rules | `(tactic| walk_at "sq") => `(tactic| first | assumption | exact SqL.of (by assumption) | exact SqL.of upd_same)
local macro_rules | `(tactic| walk_at "st") => `(tactic| first
  | refine ⟨_, rfl, ?_⟩
  | (refine ⟨_, _, rfl, rfl, And.intro ?side ?_⟩; (case side => walk_at "side"))
  | refine ⟨_, _, rfl, rfl, ?_⟩
  | (refine' ⟨_, _, _, _, rfl, rfl, SqL.of ?hp, ?atx, ?_⟩; (case hp => walk_at "hp"); (case atx => exact rfl))
  | (refine' ⟨_, _, _, _, rfl, rfl, ?hp, ?atx, ?_⟩; (case hp => walk_at "hp"); (case atx => exact rfl))
  | (refine' ⟨_, _, rfl, Or.inl ?sq, ?_⟩; (case sq => walk_at "sq"))
  | refine Or.inl ⟨_, rfl, ?_⟩
  | refine Or.inr ⟨_, rfl, ?_⟩)
local macro_rules | `(tactic| walk_at "evd") => `(tactic| first
  | exact evd_int
  | exact evd_str
  | exact evd_non
  | exact evd_bl
  | exact evd_nil
  | (refine evd_cons ?_ (fun _ => ?_) <;> walk_at "evd")
  | (refine evd_tup ?_ (Nat.le_of_ble_eq_true rfl); walk_at "evd"))

section
variable {P : Program} {w : World} {K : PySem.W.Frag} {mg : Str → Option Value} {base : Heap}
/-! what the law's own def makes of a piece of work that is handed to it -/
theorem look1 {f : Str} {v : V} : List.lookup f [(f, v)] = some v := by
  unfold List.lookup
  rw [beq_self_eq_true]
theorem exm_kit {K : PySem.W.Frag} {cls c : Value} (h : PySem.W.kitOne K cls c = some false) (e : PySem.W.exmOne K c c = some true) : PySem.W.exmOne K cls c = some false := by
  unfold PySem.W.exmOne at e ⊢
  split at e
  · rename_i h1
    rw [if_pos h1]
    unfold PySem.W.kitOne at h
    split at h
    · cases h
    · exact h
  · cases e
/-- done, or refused: the sort, the word -/
def ErrR (CIL CIB : Addr) (Q : VK) : XK := fun cls d H => ∃ (C : Addr) (sort wd : Str) (dd : Addr), ((C = CIL ∧ sort = Str.ofString "lane") ∨ (C = CIB ∧ sort = Str.ofString "block")) ∧ cls = .ref C ∧ d = some dd ∧ H dd = some (.xd [("word", .str wd)]) ∧
  ∀ H' p, Same H H' → H' p = some (.tup [.str sort, .str wd, .bl true]) → Q (.ref p) H'
def TTr (CIL CIB : Addr) : (XK → Hp → VK → Prop) → Hp → VK → Prop := fun tl H Q => tl (ErrR CIL CIB Q) H fun _ H' => ∃ v, some (some V.non) = some (some v) ∧ Q v H'
def suiteL (K : PySem.W.Frag) (CI CR C1 C2 : Addr) : Addr → Value → Option Addr → TS := fun a cls d =>
  tAsg (tTup (tCons (tC (.str (Str.ofString "lane"))) (tCons (tXf a cls d CI "word" (tVar 2)) (tCons (tAndV (tCB (rIsX K a cls d CI) (tCons (tVar 2) (tCons (tC (.ref CR)) tNil))) (tNotV (tCB (rIsXT K a cls d CI) (tCons (tVar 2) (tCons (tTup (tCons (tC (.ref C1)) (tCons (tC (.ref C2)) tNil))) tNil))))) tNil)))) (gName 1)
def suiteB (K : PySem.W.Frag) (CI CR C2 : Addr) : Addr → Value → Option Addr → TS := fun a cls d =>
  tAsg (tTup (tCons (tC (.str (Str.ofString "block"))) (tCons (tXf a cls d CI "word" (tVar 2)) (tCons (tAndV (tCB (rIsX K a cls d CI) (tCons (tVar 2) (tCons (tC (.ref CR)) tNil))) (tNotV (tCB (rIsX K a cls d CI) (tCons (tVar 2) (tCons (tC (.ref C2)) tNil))))) tNil)))) (gName 1)
theorem refused_gives {X : Cx} (T : Txt X.K X.mg) {q : Str} {cdg : Value} : LamX.GivesTo X ["_law_work", "_law_found", "e"] "_law_refused" (defScope s__law_refused) T.a__law_refused cdg (defBody s__law_refused) "_law_work" q (TTr T.c_InvalidLane T.c_InvalidBlock) := by
  intro f c' s H Q tl act hc h
  have nd := sc__law_refused.nd
  let Y : Cx := (cxOf CX0 X.prog X.w X.K X.mg X.base ["_law_work", "_law_found", "e"] "_law_refused" (defScope s__law_refused) T.a__law_refused cdg X.A X.stack s H E0).nox
  refine ⟨_, pss_cons (X := Y) (ps_set (i := 1) nd rfl (Or.inl rfl) pe_non)
    (pss_cons (ps_try_by (X := Y) (tb := fun W D σ H => ∃ Ech : XK, (∀ cls d σ' H', Ech cls d H' → W cls d σ' H') ∧ σ[0]? = some (some (.ref f)) ∧ H c' = some (LamX.CodeO c' q) ∧ tl Ech H fun v H' => D.nx σ H') rfl rfl (fun W pn xe tk _ => ?_)
      (hand_len (hand_as (X := Y) (i := 2) (ts := suiteL X.K T.c_InvalidLane T.c_RingError T.c_InvalidBlock T.c_InvalidForm) rfl nd rfl rfl ⟨rfl, by decide, Or.inl T.m_InvalidLane⟩
        (fun a oe cls d pn hz hf => pss_one (ps_set (i := 1) nd rfl (Or.inl rfl) (pe_tup (pa_cons pe_str (pa_cons (pe_xf T.f_InvalidLane T.n_InvalidLane hz hf (pv 2)) (pa_cons
          (pe_and (pe_callB (call_isX T.X_InvalidLane hz hf) (by rfl) T.z_isinstance (by decide +kernel) (pa_cons (pv 2) (pa_cons (pe_glob rfl T.m_RingError (rel_ref _)) pa_nil)))
            (pe_one (pe_not (pe_callB (call_isXT T.X_InvalidLane hz hf) (by rfl) T.z_isinstance (by decide +kernel) (pa_cons (pv 2) (pa_cons (pe_tup (pa_cons (pe_glob rfl T.m_InvalidBlock (rel_ref _)) (pa_cons (pe_glob rfl T.m_InvalidForm (rel_ref _)) pa_nil))) pa_nil)))))) pa_nil))))))
        (hand_as (X := Y) (i := 2) (ts := suiteB X.K T.c_InvalidBlock T.c_RingError T.c_InvalidForm) rfl nd rfl rfl ⟨rfl, by decide, Or.inl T.m_InvalidBlock⟩
          (fun a oe cls d pn hz hf => pss_one (ps_set (i := 1) nd rfl (Or.inl rfl) (pe_tup (pa_cons pe_str (pa_cons (pe_xf T.f_InvalidBlock T.n_InvalidBlock hz hf (pv 2)) (pa_cons
            (pe_and (pe_callB (call_isX T.X_InvalidBlock hz hf) (by rfl) T.z_isinstance (by decide +kernel) (pa_cons (pv 2) (pa_cons (pe_glob rfl T.m_RingError (rel_ref _)) pa_nil)))
              (pe_one (pe_not (pe_callB (call_isX T.X_InvalidBlock hz hf) (by rfl) T.z_isinstance (by decide +kernel) (pa_cons (pv 2) (pa_cons (pe_glob rfl T.m_InvalidForm (rel_ref _)) pa_nil)))))) pa_nil))))))
          (hand_nil (X := Y) (W := fun _ _ _ _ => False) rfl rfl takes0)))))
    (pss_one (ps_ret (pv 1)))), ?_⟩
  · refine ⟨fun pins s' σ H' D I h' => ?_⟩
    obtain ⟨Ech, hW, h1, h2, h3⟩ := h'
    exact (pss_one (ps_expr (act W pn xe Ech _ _ tk hW))).run pins s' σ H' D I ⟨h1, h2, h3⟩
  · refine asg_go ⟨ErrR T.c_InvalidLane T.c_InvalidBlock Q, fun cls d σ' H' he len => ?_, rfl, hc, h⟩
    obtain ⟨C, sort, wd, dd, hk, rfl, rfl, hdd, qq⟩ := he
    obtain ⟨s0, s1, s2, rfl⟩ : ∃ s0 s1 s2, σ' = [s0, s1, s2] := by
      match σ', len with
      | [a, b, c], _ => exact ⟨a, b, c, rfl⟩
    rcases hk with ⟨rfl, rfl⟩ | ⟨rfl, rfl⟩
    · refine ⟨true, T.e_InvalidLane, fun _ a ha => ?_, fun q => Bool.noConfusion q⟩
      refine ⟨_, rfl, rfl, rfl, dd, _, .str wd, rfl, hdd, look1, ?_⟩
      refine ⟨_, rfl, _, _, true, dd, _, rfl, .own _, rfl, rfl, hdd, T.kit_InvalidLane_RingError, _, rfl, ifT rfl ?_⟩
      refine ⟨_, rfl, szL (Nat.le_of_ble_eq_true rfl), fun tp ntp => ?_⟩
      have s1 := same_new (o := .tup [.ref T.c_InvalidBlock, .ref T.c_InvalidForm]) ntp
      refine ⟨tp, _, _, false, dd, _, rfl, upd_same, .cons (.own _) (.cons (.own _) .nil), rfl, rfl, s1 _ _ hdd, kitAny_cons T.kit_InvalidLane_InvalidBlock (fun _ => kitAny_cons T.kit_InvalidLane_InvalidForm (fun _ => kitAny_nil) (fun q => Bool.noConfusion q)) (fun q => Bool.noConfusion q), ?_⟩
      refine ⟨_, rfl, szL (Nat.le_of_ble_eq_true rfl), fun p np => ?_⟩
      exact ⟨_, rfl, qq _ p (s1.trans (same_new np)) upd_same⟩
    · refine ⟨false, exm_kit T.kit_InvalidBlock_InvalidLane T.e_InvalidLane, fun q => Bool.noConfusion q, fun _ => ?_⟩
      refine ⟨true, T.e_InvalidBlock, fun _ a ha => ?_, fun q => Bool.noConfusion q⟩
      refine ⟨_, rfl, rfl, rfl, dd, _, .str wd, rfl, hdd, look1, ?_⟩
      refine ⟨_, rfl, _, _, true, dd, _, rfl, .own _, rfl, rfl, hdd, T.kit_InvalidBlock_RingError, _, rfl, ifT rfl ?_⟩
      refine ⟨_, rfl, _, _, false, dd, _, rfl, .own _, rfl, rfl, hdd, T.kit_InvalidBlock_InvalidForm, ?_⟩
      refine ⟨_, rfl, szL (Nat.le_of_ble_eq_true rfl), fun p np => ?_⟩
      exact ⟨_, rfl, qq _ p (same_new np) upd_same⟩

end
end K06
namespace K06
open PySem PySem.Spec PyProof.Rows L2 Rs
local macro_rules | `(tactic| walk_at "om") => `(tactic| first | omega | (dsimp only; omega))
local macro_rules | `(tactic| walk_at "side") => `(tactic| first | omega | (dsimp only; omega) | decide | (unfold CMul; omega) | (unfold CDiv; omega) | (unfold CPow; omega) | exact wide_div (b := 64) (by omega) (by omega) (by decide) (by decide))
local macro_rules | `(tactic| walk_at "hp") => `(tactic| first | assumption | exact upd_same)
local macro_rules | `(tactic| walk_at "sq") => `(tactic| first | assumption | exact SqL.of (by assumption) | exact SqL.of upd_same)
local macro_rules | `(tactic| walk_at "st") => `(tactic| first
  | refine ⟨_, rfl, ?_⟩
  | (refine ⟨_, _, rfl, rfl, And.intro ?side ?_⟩; (case side => walk_at "side"))
  | refine ⟨_, _, rfl, rfl, ?_⟩
  | (refine' ⟨_, _, _, _, rfl, rfl, SqL.of ?hp, ?atx, ?_⟩; (case hp => walk_at "hp"); (case atx => exact rfl))
  | (refine' ⟨_, _, _, _, rfl, rfl, ?hp, ?atx, ?_⟩; (case hp => walk_at "hp"); (case atx => exact rfl))
  | (refine' ⟨_, _, rfl, Or.inl ?sq, ?_⟩; (case sq => walk_at "sq"))
  | refine Or.inl ⟨_, rfl, ?_⟩
  | refine Or.inr ⟨_, rfl, ?_⟩)
local macro_rules | `(tactic| walk_at "evd") => `(tactic| first
  | exact evd_int
  | exact evd_str
  | exact evd_non
  | exact evd_bl
  | exact evd_nil
  | (refine evd_cons ?_ (fun _ => ?_) <;> walk_at "evd")
  | (refine evd_tup ?_ (Nat.le_of_ble_eq_true rfl); walk_at "evd"))

section
variable {P : Program} {w : World} {K : PySem.W.Frag} {mg : Str → Option Value} {base : Heap}
/-! a lane, a block, made in a piece of work that reads the list of the law -/
theorem refused_call {X : Cx} (T : Txt X.K X.mg) {t : XK → TE} {params : Arguments} {body : Expr} {scope : Scope} {p lpos pos : Pos} (hTB : LamX.TabB X.base X.mg T.tc_law T.tp_law) (hcode : X.env.code = .ref T.tc_law) (hg : Gl X "_law_refused") (hr : Room 8 X.A) (L : LamX.LamS X.env.scope scope)
    (hdef : defaultsOf params X.env = ([], [])) (hbind : ∀ (q : Str) (cl : List (Str × Addr)) (pm cv ctv : Value), bindArgs (PySem.W.kla_fn "<lambda>" q params body scope cl pm cv ctv) ⟨[], []⟩ = pure [])
    (hbody : ∀ (A : Around) (outer : List Env) (s : Shared) (H : Hp) (E : XK) (f c' : Addr), Room 6 (A.deeper (LamX.lamEnv X scope s.heap.objs.size f c')) → PE (LamX.lamCx X A outer s H E scope f c') body (t E)) :
    PE X (.Call (.Name "_law_refused" p) [.Lambda params body scope lpos] [] pos) (LamX.tLam [(T.tp_law, X.env.qual ++ "<lambda>")] (TTr T.c_InvalidLane T.c_InvalidBlock) t) := by
  obtain ⟨oc, od, kV, doc, pm, an, cdv, ct, osl, eq, lk, hcd⟩ := T.F__law_refused.ex
  have b := T.b__law_refused
  rw [eq] at b lk
  exact LamX.pe_lamcall (a := "_law_work") (k := 6) hg T.m__law_refused T.k__law_refused lk hcd b sc__law_refused rfl (Or.inl rfl) (refused_gives T) hTB hcode (List.mem_singleton.mpr rfl) (fun z hz _ => by rw [List.mem_singleton.mp hz]) hr L hdef hbind hbody
theorem refused_here {X : Cx} {K : PySem.W.Frag} {mg : Str → Option Value} {base : Heap} (T : Txt K mg) {t : XK → TE} {params : Arguments} {body : Expr} {scope : Scope} {p lpos pos : Pos} (hTB : LamX.TabB base mg T.tc_law T.tp_law) (hcode : X.env.code = .ref T.tc_law) (hg : Gl X "_law_refused") (hr : Room 8 X.A) (L : LamX.LamS X.env.scope scope)
    (hdef : defaultsOf params X.env = ([], [])) (hbind : ∀ (q : Str) (cl : List (Str × Addr)) (pm cv ctv : Value), bindArgs (PySem.W.kla_fn "<lambda>" q params body scope cl pm cv ctv) ⟨[], []⟩ = pure [])
    (hbody : ∀ (A : Around) (outer : List Env) (s : Shared) (H : Hp) (E : XK) (f c' : Addr), Room 6 (A.deeper (LamX.lamEnv X scope s.heap.objs.size f c')) → PE (LamX.lamCx X A outer s H E scope f c') body (t E))
    (eK : X.K = K := by rfl) (em : X.mg = mg := by rfl) (eb : X.base = base := by rfl) (eq : X.env.qual ++ "<lambda>" = lamQ "law" := by rfl) :
    PE X (.Call (.Name "_law_refused" p) [.Lambda params body scope lpos] [] pos) (LamX.tLam [(T.tp_law, lamQ "law")] (TTr T.c_InvalidLane T.c_InvalidBlock) t) := by
  subst eK em eb
  rw [← eq]
  exact refused_call T hTB hcode hg hr L hdef hbind hbody
theorem tyx_ext {K : PySem.W.Frag} {H H' : Hp} {v : V} {t : Value} (s : LamX.ExtN H H') (h : TyX K H v t) : TyX K H' v t := by
  cases h with
  | base b =>
    cases b with
    | non => exact .base .non
    | bl x => exact .base (.bl x)
    | int x => exact .base (.int x)
    | str x => exact .base (.str x)
    | flt x => exact .base (.flt x)
    | lst e => exact .base (.lst (s _ _ e fun _ q => by cases q))
    | frz e => exact .base (.frz (s _ _ e fun _ q => by cases q))
    | tup e => exact .base (.tup (s _ _ e fun _ q => by cases q))
    | dK e => exact .base (.dK (s _ _ e fun _ q => by cases q))
    | dT e => exact .base (.dT (s _ _ e fun _ q => by cases q))
    | ins e c ha hn ht hm => exact .base (.ins (s _ _ e fun _ q => by cases q) c ha hn ht hm)
  | byt x => exact .byt x
  | set e => exact .set (s _ _ e fun _ q => by cases q)
  | kList e c => exact .kList e c
  | kTuple e c => exact .kTuple e c
  | kDict e c => exact .kDict e c
  | fTuple e => exact .fTuple (s _ _ e fun _ q => by cases q)
  | fDict e => exact .fDict (s _ _ e fun _ q => by cases q)
theorem IsC.ext {K : PySem.W.Frag} {C : Addr} {H H' : Hp} {v : V} {r : Bool} (h : IsC K C H v r) (s : LamX.ExtN H H') : IsC K C H' v r := by
  obtain ⟨t, ty, k⟩ := h
  exact ⟨t, tyx_ext s ty, k⟩
theorem Sh.ext {b : Addr} {H H' : Hp} {v : V} (h : Sh b H v) (s : LamX.ExtN H H') : Sh b H' v := by
  cases v with
  | ref a =>
    obtain ⟨ne, ⟨xs, e⟩ | ⟨xs, e⟩⟩ := h
    · exact ⟨ne, .inl ⟨xs, s _ _ e fun _ q => by cases q⟩⟩
    · exact ⟨ne, .inr ⟨xs, s _ _ e fun _ q => by cases q⟩⟩
  | _ => exact h
theorem Wv.ext {CL b : Addr} {H H' : Hp} {v : V} (h : Wv CL b H v) (s : LamX.ExtN H H') : Wv CL b H' v := by
  rcases h with h | ⟨x, dx, fs, e, hx⟩
  · exact .inl (Sh.ext h s)
  · exact .inr ⟨x, dx, fs, e, s _ _ hx fun _ q => by cases q⟩
theorem IsAll.ext {K : PySem.W.Frag} {C : Addr} {H H' : Hp} (s : LamX.ExtN H H') : ∀ {vs : List V} {rs : List Bool}, IsAll K C H vs rs → IsAll K C H' vs rs
  | [], [], _ => trivial
  | [], _ :: _, h => h.elim
  | _ :: _, [], h => h.elim
  | _ :: _, _ :: _, h => ⟨h.1.ext s, IsAll.ext s h.2⟩
theorem SeqD.ext {K : PySem.W.Frag} {CL : Addr} {H H' : Hp} {v : V} (s : LamX.ExtN H H') : ∀ {l : Option (List Bool)}, SeqD K CL H v l → SeqD K CL H' v l
  | none, ⟨t, ty, k⟩ => ⟨t, tyx_ext s ty, k⟩
  | some _, ⟨a, xs, e, h, l, al⟩ => ⟨a, xs, e, h.imp (fun z => s _ _ z fun _ q => by cases q) (fun z => s _ _ z fun _ q => by cases q), l, al.ext s⟩
theorem extN_same {H H' : Hp} (s : Same H H') : LamX.ExtN H H' := fun b o h _ => s b o h
def tLaneB (K : PySem.W.Frag) (CL CF CI : Addr) : XK → TE := fun E => tMakeS CL (spLaneA K CL CF CI) (WE fun cls d _ H => E cls d H)
  (tCons (tOp (rIx K) (tVar 6) (tC (.int 0))) (tCons (tOp (rIx K) (tVar 6) (tC (.int 1))) (tCons (tOp (rIx K) (tVar 6) (tC (.int 2))) (tCons (tOp (rIx K) (tVar 6) (tC (.int 3))) tNil))))
def tBlockB (K : PySem.W.Frag) (CB CF CL CI : Addr) : XK → TE := fun E => tMakeS CB (spBlockA K CB CF CL CI) (WE fun cls d _ H => E cls d H)
  (tCons (tOp (rIx K) (tVar 13) (tC (.int 0))) (tCons (tOp (rIx K) (tVar 13) (tC (.int 1))) tNil))
theorem lane_wish {K : PySem.W.Frag} {TT : List (Addr × Str)} {CL CF CIL CIB L b : Addr} {σ : L2.St} {H : Hp} {Q : VK} {v0 v1 v2 v3 : V} {f : Bool} (tabs : LamX.Tabs TT H) (hσ : σ[6]? = some (some (.ref L))) (hL : H L = some (.lst [v0, v1, v2, v3])) (h0 : Wv CL b H v0) (h1 : Wv CL b H v1) (h2 : IsC K CF H v2 f) (h3 : Wv CL b H v3)
    (kn : laneDue v0 v1 f v3 = none → ∀ H', LamX.ExtN H H' → LamX.Tabs TT H' → Q .non H')
    (ke : ∀ wd, laneDue v0 v1 f v3 = some wd → ∀ H' p, LamX.ExtN H H' → LamX.Tabs TT H' → H' p = some (.tup [.str (Str.ofString "lane"), .str wd, .bl true]) → Q (.ref p) H') :
    LamX.tLam TT (TTr CIL CIB) (tLaneB K CL CF CIL) σ H Q := by
  refine ⟨tabs, fun H1 x1 t1 => ?_⟩
  have hL1 := x1 _ _ hL fun _ q => by cases q
  refine ⟨_, hσ, .inl ⟨L, _, 0, v0, rfl, rfl, SqL.of hL1, rfl, _, hσ, .inl ⟨L, _, 1, v1, rfl, rfl, SqL.of hL1, rfl, _, hσ, .inl ⟨L, _, 2, v2, rfl, rfl, SqL.of hL1, rfl, _, hσ, .inl ⟨L, _, 3, v3, rfl, rfl, SqL.of hL1, rfl, ?_⟩⟩⟩⟩⟩
  refine fun x dx nx ndx ne => ?_
  have s2 : Same H1 (upd (upd H1 dx (.own x)) x (.ins CL dx [])) := same_two nx ndx
  have s3 : ∀ fs, Same H1 (upd (upd (upd H1 dx (.own x)) x (.ins CL dx [])) x (.ins CL dx fs)) := fun fs => same_made nx ndx
  refine ⟨x, dx, b, v0, v1, v2, v3, f, rfl, upd_same, (h0.ext x1).same s2, (h1.ext x1).same s2, (h2.ext x1).same s2, (h3.ext x1).same s2, fun e => ⟨rfl, .non, rfl, ?_⟩, fun wd e d nd => ?_⟩
  · exact kn e _ (x1.trans (extN_same (s3 _))) (t1.ext (s3 _))
  · have s4 := s2.trans (same_new (o := .xd [("word", .str wd)]) nd)
    refine ⟨CIL, Str.ofString "lane", wd, d, .inl ⟨rfl, rfl⟩, rfl, rfl, upd_same, fun H' p s' hp => ?_⟩
    exact ke wd e H' p (x1.trans (extN_same (s4.trans s'))) (t1.ext (s4.trans s')) hp
theorem block_wish {K : PySem.W.Frag} {TT : List (Addr × Str)} {CB CL CF CIL CIB L : Addr} {σ : L2.St} {H : Hp} {Q : VK} {v0 v1 : V} {f : Bool} {l : Option (List Bool)} (tabs : LamX.Tabs TT H) (hσ : σ[13]? = some (some (.ref L))) (hL : H L = some (.lst [v0, v1])) (h0 : IsC K CF H v0 f) (h1 : SeqD K CL H v1 l)
    (kn : blockDue f l = none → ∀ H', LamX.ExtN H H' → LamX.Tabs TT H' → Q .non H')
    (ke : ∀ wd, blockDue f l = some wd → ∀ H' p, LamX.ExtN H H' → LamX.Tabs TT H' → H' p = some (.tup [.str (Str.ofString "block"), .str wd, .bl true]) → Q (.ref p) H') :
    LamX.tLam TT (TTr CIL CIB) (tBlockB K CB CF CL CIB) σ H Q := by
  refine ⟨tabs, fun H1 x1 t1 => ?_⟩
  have hL1 := x1 _ _ hL fun _ q => by cases q
  refine ⟨_, hσ, .inl ⟨L, _, 0, v0, rfl, rfl, SqL.of hL1, rfl, _, hσ, .inl ⟨L, _, 1, v1, rfl, rfl, SqL.of hL1, rfl, ?_⟩⟩⟩
  refine fun x dx nx ndx ne => ?_
  have s2 : Same H1 (upd (upd H1 dx (.own x)) x (.ins CB dx [])) := same_two nx ndx
  refine ⟨x, dx, v0, v1, f, l, rfl, upd_same, (h0.ext x1).same s2, (h1.ext x1).same s2, fun e H2 fs s3 => ⟨rfl, .non, rfl, ?_⟩, fun wd e H2 d s3 nd => ?_⟩
  · have s4 : Same H1 (upd H2 x (.ins CB dx fs)) := same_make nx ndx s3
    exact kn e _ (x1.trans (extN_same s4)) (t1.ext s4)
  · have s4 := s2.trans (s3.trans (same_new (o := .xd [("word", .str wd)]) nd))
    refine ⟨CIB, Str.ofString "block", wd, d, .inr ⟨rfl, rfl⟩, rfl, rfl, upd_same, fun H' p s' hp => ?_⟩
    exact ke wd e H' p (x1.trans (extN_same (s4.trans s'))) (t1.ext (s4.trans s')) hp

end
end K06
namespace K06
open PySem PySem.Spec PyProof.Rows L2 Rs
local macro_rules | `(tactic| walk_at "om") => `(tactic| first | omega | (dsimp only; omega))
local macro_rules | `(tactic| walk_at "side") => `(tactic| first | omega | (dsimp only; omega) | decide | (unfold CMul; omega) | (unfold CDiv; omega) | (unfold CPow; omega) | exact wide_div (b := 64) (by omega) (by omega) (by decide) (by decide))
local macro_rules | `(tactic| walk_at "hp") => `(tactic| first | assumption | exact upd_same)
local macro_rules | `(tactic| walk_at "sq") => `(tactic| first | assumption | exact SqL.of (by assumption) | exact SqL.of upd_same)
local macro_rules | `(tactic| walk_at "st") => `(tactic| first
  | refine ⟨_, rfl, ?_⟩
  | (refine ⟨_, _, rfl, rfl, And.intro ?side ?_⟩; (case side => walk_at "side"))
  | refine ⟨_, _, rfl, rfl, ?_⟩
  | (refine' ⟨_, _, _, _, rfl, rfl, SqL.of ?hp, ?atx, ?_⟩; (case hp => walk_at "hp"); (case atx => exact rfl))
  | (refine' ⟨_, _, _, _, rfl, rfl, ?hp, ?atx, ?_⟩; (case hp => walk_at "hp"); (case atx => exact rfl))
  | (refine' ⟨_, _, rfl, Or.inl ?sq, ?_⟩; (case sq => walk_at "sq"))
  | refine Or.inl ⟨_, rfl, ?_⟩
  | refine Or.inr ⟨_, rfl, ?_⟩)
local macro_rules | `(tactic| walk_at "evd") => `(tactic| first
  | exact evd_int
  | exact evd_str
  | exact evd_non
  | exact evd_bl
  | exact evd_nil
  | (refine evd_cons ?_ (fun _ => ?_) <;> walk_at "evd")
  | (refine evd_tup ?_ (Nat.le_of_ble_eq_true rfl); walk_at "evd"))

section
variable {P : Program} {w : World} {K : PySem.W.Frag} {mg : Str → Option Value} {base : Heap}
/-! what the law keeps in its turns: the box, the script, the tables -/
def Kc (K : PySem.W.Frag) (a : Addr) (xs : List V) : Prop := ∃ (o : Obj) (its : Array Value) (n : Nat), K.lookup a = some o ∧ o.cls = .type "list" ∧ o.dict = none ∧ o.data = .seq its n ∧ its.size ≤ sizeLine ∧ Vals xs its.toList
def Scr (K : PySem.W.Frag) (b a : Addr) (xs : List V) (H : Hp) : Prop := (a ≠ b ∧ (H a = some (.lst xs) ∨ ∃ o, H a = some (.frz o (.lst xs)))) ∨ Kc K a xs
def Sep (K : PySem.W.Frag) (a L : Addr) (xs : List V) : Prop := a ≠ L ∨ Kc K a xs
structure Kept (K : PySem.W.Frag) (TT : List (Addr × Str)) (b a : Addr) (xs : List V) (H : Hp) : Prop where
  box : Box H b
  scr : Scr K b a xs H
  tb : LamX.Tabs TT H
section
variable {TT : List (Addr × Str)} {a b L : Addr} {xs : List V} {H H' : Hp}
theorem Scr.sql (h : Scr K b a xs H) : SqL K H a xs := by
  rcases h with ⟨_, h | h⟩ | h
  · exact .inl (.inl h)
  · exact .inl (.inr h)
  · exact .inr h
theorem Scr.start (h : SqL K H a xs) (nb : H b = none) (s : Same H H') : Scr K b a xs H' := by
  rcases h with (h | ⟨o, h⟩) | h
  · exact .inl ⟨ne_of_none h nb, .inl (s _ _ h)⟩
  · exact .inl ⟨ne_of_none h nb, .inr ⟨o, s _ _ h⟩⟩
  · exact .inr h
theorem Scr.but (h : Scr K b a xs H) (k : But b H H') : Scr K b a xs H' := by
  rcases h with ⟨n, h | ⟨o, h⟩⟩ | h
  · exact .inl ⟨n, .inl (k _ _ n h)⟩
  · exact .inl ⟨n, .inr ⟨o, k _ _ n h⟩⟩
  · exact .inr h
theorem Scr.ext (h : Scr K b a xs H) (k : LamX.ExtN H H') : Scr K b a xs H' := by
  rcases h with ⟨n, h | ⟨o, h⟩⟩ | h
  · exact .inl ⟨n, .inl (k _ _ h fun _ q => by cases q)⟩
  · exact .inl ⟨n, .inr ⟨o, k _ _ h fun _ q => by cases q⟩⟩
  · exact .inr h
theorem Scr.sep (h : Scr K b a xs H) (n : H L = none) : Sep K a L xs := by
  rcases h with ⟨_, h | ⟨o, h⟩⟩ | h
  · exact .inl (ne_of_none h n)
  · exact .inl (ne_of_none h n)
  · exact .inr h
theorem Scr.set {o : HO} (h : Scr K b a xs H) (p : Sep K a L xs) : Scr K b a xs (upd H L o) := by
  rcases p with p | p
  · rcases h with ⟨n, h | ⟨o, h⟩⟩ | h
    · exact .inl ⟨n, .inl (by rw [upd_ne p]; exact h)⟩
    · exact .inl ⟨n, .inr ⟨o, by rw [upd_ne p]; exact h⟩⟩
    · exact .inr h
  · exact .inr p
theorem tabs_at {ys : List V} (t : LamX.Tabs TT H) (hL : H L = some (.lst ys)) (k : ∀ c o, c ≠ L → H c = some o → H' c = some o) : LamX.Tabs TT H' := by
  intro p hp
  obtain ⟨ps, h1, h2, h3⟩ := t p hp
  refine ⟨ps, k _ _ (fun q => ?_) h1, h2, fun pos cv hc => ?_⟩
  · rw [q, hL] at h1
    cases h1
  · obtain ⟨c, e1, e2⟩ := h3 pos cv hc
    refine ⟨c, e1, k _ _ (fun q => ?_) e2⟩
    rw [q, hL] at e2
    unfold LamX.CodeO at e2
    cases e2
theorem Kept.but (h : Kept K TT b a xs H) (B : Box H' b) (k : But b H H') : Kept K TT b a xs H' := by
  obtain ⟨x, y, z, hb, _⟩ := h.box
  exact ⟨B, h.scr.but k, tabs_at h.tb hb fun c o n e => k c o n e⟩
theorem Kept.same (h : Kept K TT b a xs H) (s : Same H H') : Kept K TT b a xs H' := ⟨h.box.same s, h.scr.but (But.of_same s), h.tb.ext s⟩
theorem Kept.ext (h : Kept K TT b a xs H) (x : LamX.ExtN H H') (t : LamX.Tabs TT H') : Kept K TT b a xs H' := by
  refine ⟨?_, h.scr.ext x, t⟩
  obtain ⟨i, j, k, e, r⟩ := h.box
  exact ⟨i, j, k, x _ _ e (fun _ q => by cases q), r⟩
theorem Kept.set {ys zs : List V} (h : Kept K TT b a xs H) (ne : L ≠ b) (p : Sep K a L xs) (hL : H L = some (.lst ys)) : Kept K TT b a xs (upd H L (.lst zs)) :=
  ⟨box_ne h.box ne, h.scr.set p, tabs_at h.tb hL fun c o n e => by rw [upd_ne n]; exact e⟩
end
/-! values, over a list that is written to -/
theorem tyx_set {H : Hp} {L : Addr} {xs ys : List V} {v : V} {t : Value} (hL : H L = some (.lst xs)) (h : TyX K H v t) : TyX K (upd H L (.lst ys)) v t := by
  have ne : ∀ {a : Addr} {o : HO}, H a = some o → (∀ zs, o ≠ .lst zs) → upd H L (.lst ys) a = some o := fun {a o} e n => by
    have : a ≠ L := fun q => by
      rw [q, hL] at e
      cases e
      exact n _ rfl
    rw [upd_ne this]
    exact e
  cases h with
  | base b =>
    cases b with
    | non => exact .base .non
    | bl x => exact .base (.bl x)
    | int x => exact .base (.int x)
    | str x => exact .base (.str x)
    | flt x => exact .base (.flt x)
    | @lst a zs e =>
      by_cases q : a = L
      · subst q
        exact .base (.lst upd_same)
      · exact .base (.lst (by rw [upd_ne q]; exact e))
    | frz e => exact .base (.frz (ne e fun _ q => by cases q))
    | tup e => exact .base (.tup (ne e fun _ q => by cases q))
    | dK e => exact .base (.dK (ne e fun _ q => by cases q))
    | dT e => exact .base (.dT (ne e fun _ q => by cases q))
    | ins e c ha hn ht hm => exact .base (.ins (ne e fun _ q => by cases q) c ha hn ht hm)
  | byt x => exact .byt x
  | set e => exact .set (ne e fun _ q => by cases q)
  | kList e c => exact .kList e c
  | kTuple e c => exact .kTuple e c
  | kDict e c => exact .kDict e c
  | fTuple e => exact .fTuple (ne e fun _ q => by cases q)
  | fDict e => exact .fDict (ne e fun _ q => by cases q)
theorem IsC.set {C L : Addr} {H : Hp} {xs ys : List V} {v : V} {r : Bool} (h : IsC K C H v r) (hL : H L = some (.lst xs)) : IsC K C (upd H L (.lst ys)) v r := by
  obtain ⟨t, ty, k⟩ := h
  exact ⟨t, tyx_set hL ty, k⟩
theorem Wv.set {CL b L : Addr} {H : Hp} {xs ys : List V} {v : V} (h : Wv CL b H v) (hL : H L = some (.lst xs)) : Wv CL b (upd H L (.lst ys)) v := by
  rcases h with h | ⟨x, dx, fs, e, hx⟩
  · exact .inl (h.set hL)
  · refine .inr ⟨x, dx, fs, e, ?_⟩
    have : x ≠ L := fun q => by
      rw [q, hL] at hx
      cases hx
    rw [upd_ne this]
    exact hx
theorem tyx_but {b : Addr} {H H' : Hp} {v : V} {t : Value} (k : But b H H') (B : Box H b) (B' : Box H' b) (h : TyX K H v t) : TyX K H' v t := by
  obtain ⟨x, y, z, hb, _⟩ := B
  obtain ⟨x', y', z', hb', _⟩ := B'
  have ne : ∀ {a : Addr} {o : HO}, H a = some o → (∀ zs, o ≠ .lst zs) → H' a = some o := fun {a o} e n => by
    refine k _ _ (fun q => ?_) e
    rw [q, hb] at e
    cases e
    exact n _ rfl
  cases h with
  | base h =>
    cases h with
    | non => exact .base .non
    | bl x => exact .base (.bl x)
    | int x => exact .base (.int x)
    | str x => exact .base (.str x)
    | flt x => exact .base (.flt x)
    | @lst a zs e =>
      by_cases q : a = b
      · subst q
        exact .base (.lst hb')
      · exact .base (.lst (k _ _ q e))
    | frz e => exact .base (.frz (ne e fun _ q => by cases q))
    | tup e => exact .base (.tup (ne e fun _ q => by cases q))
    | dK e => exact .base (.dK (ne e fun _ q => by cases q))
    | dT e => exact .base (.dT (ne e fun _ q => by cases q))
    | ins e c ha hn ht hm => exact .base (.ins (ne e fun _ q => by cases q) c ha hn ht hm)
  | byt x => exact .byt x
  | set e => exact .set (ne e fun _ q => by cases q)
  | kList e c => exact .kList e c
  | kTuple e c => exact .kTuple e c
  | kDict e c => exact .kDict e c
  | fTuple e => exact .fTuple (ne e fun _ q => by cases q)
  | fDict e => exact .fDict (ne e fun _ q => by cases q)
theorem IsC.but {C b : Addr} {H H' : Hp} {v : V} {r : Bool} (h : IsC K C H v r) (k : But b H H') (B : Box H b) (B' : Box H' b) : IsC K C H' v r := by
  obtain ⟨t, ty, kk⟩ := h
  exact ⟨t, tyx_but k B B' ty, kk⟩
/-- any value is no form; no lane, where it is none -/
theorem Sh.isC {C b : Addr} {H : Hp} {v : V} (I : OwnI K C) (h : Sh b H v) : IsC K C H v false := by
  obtain ⟨t, ty, bt⟩ := h.bt (K := K)
  exact ⟨_, ty, I.bt bt⟩
theorem Wv.isC {CL CF b : Addr} {H : Hp} {v : V} (IF : OwnI K CF) (IL : OwnI K CL) (C : Cls K CL) (no : PySem.W.kitOne K (.ref CL) (.ref CF) = some false) (h : Wv CL b H v) : IsC K CF H v false := by
  rcases h with h | ⟨x, dx, fs, rfl, hx⟩
  · exact Sh.isC IF h
  · exact ⟨_, IL.ty C hx, no⟩
theorem Sh.seq {CL b : Addr} {H : Hp} {v : V} (IL : OwnI K CL) (h : Sh2 b H v) : ∃ l, SeqD K CL H v l := by
  have all : ∀ {ys : List V}, (∀ y ∈ ys, Sh b H y) → IsAll K CL H ys (ys.map fun _ => false) := fun {ys} => by
    induction ys with
    | nil => intro _; trivial
    | cons y ys ih => exact fun q => ⟨Sh.isC IL (q y (List.mem_cons_self ..)), ih fun z hz => q z (List.mem_cons_of_mem _ hz)⟩
  have none_ : ∀ {t : String}, TyX K H v (.type t) → kitB t "list" = some false → kitB t "tuple" = some false → ∃ l, SeqD K CL H v l := fun {t} ty k1 k2 => ⟨none, _, ty, kitAny_cons (kit_ty k1) (fun _ => kitAny_cons (kit_ty k2) (fun _ => kitAny_nil) fun q => Bool.noConfusion q) fun q => Bool.noConfusion q⟩
  cases v with
  | ref a =>
    obtain ⟨_, ys, e, l, q⟩ := h
    exact ⟨some _, a, ys, rfl, e, by omega, all q⟩
  | non => exact none_ (.base .non) (by decide +kernel) (by decide +kernel)
  | bl x => exact none_ (.base (.bl x)) (by decide +kernel) (by decide +kernel)
  | int x => exact none_ (.base (.int x)) (by decide +kernel) (by decide +kernel)
  | str x => exact none_ (.base (.str x)) (by decide +kernel) (by decide +kernel)
  | byt _ => exact h.elim
  | flt _ => exact h.elim
  | ty _ => exact h.elim

end
end K06
namespace K06
open PySem PySem.Spec PyProof.Rows L2 Rs
local macro_rules | `(tactic| walk_at "om") => `(tactic| first | omega | (dsimp only; omega))
local macro_rules | `(tactic| walk_at "side") => `(tactic| first | omega | (dsimp only; omega) | decide | (unfold CMul; omega) | (unfold CDiv; omega) | (unfold CPow; omega) | exact wide_div (b := 64) (by omega) (by omega) (by decide) (by decide))
local macro_rules | `(tactic| walk_at "hp") => `(tactic| first | assumption | exact upd_same)
local macro_rules | `(tactic| walk_at "sq") => `(tactic| first | assumption | exact SqL.of (by assumption) | exact SqL.of upd_same)
local macro_rules | `(tactic| walk_at "st") => `(tactic| first
  | refine ⟨_, rfl, ?_⟩
  | (refine ⟨_, _, rfl, rfl, And.intro ?side ?_⟩; (case side => walk_at "side"))
  | refine ⟨_, _, rfl, rfl, ?_⟩
  | (refine' ⟨_, _, _, _, rfl, rfl, SqL.of ?hp, ?atx, ?_⟩; (case hp => walk_at "hp"); (case atx => exact rfl))
  | (refine' ⟨_, _, _, _, rfl, rfl, ?hp, ?atx, ?_⟩; (case hp => walk_at "hp"); (case atx => exact rfl))
  | (refine' ⟨_, _, rfl, Or.inl ?sq, ?_⟩; (case sq => walk_at "sq"))
  | refine Or.inl ⟨_, rfl, ?_⟩
  | refine Or.inr ⟨_, rfl, ?_⟩)
local macro_rules | `(tactic| walk_at "evd") => `(tactic| first
  | exact evd_int
  | exact evd_str
  | exact evd_non
  | exact evd_bl
  | exact evd_nil
  | (refine evd_cons ?_ (fun _ => ?_) <;> walk_at "evd")
  | (refine evd_tup ?_ (Nat.le_of_ble_eq_true rfl); walk_at "evd"))

section
variable {P : Program} {w : World} {K : PySem.W.Frag} {mg : Str → Option Value} {base : Heap}
/-! the list that is told, the good lane -/
structure Good (CL CF x dx : Addr) (y z : Str) (f : V) (d : Str) (H : Hp) : Prop where
  at_ : H x = some (.ins CL dx (fldA (.str y) (.str z) f (.str d)))
  sh : InsOf CF H f
structure Told (K : PySem.W.Frag) (TT : List (Addr × Str)) (CL CF b a L : Addr) (xs : List V) (H : Hp) (v0 v1 v2 v3 : V) (fl : Bool) : Prop where
  kept : Kept K TT b a xs H
  told : H L = some (.lst [v0, v1, v2, v3])
  w0 : Wv CL b H v0
  w1 : Wv CL b H v1
  c2 : IsC K CF H v2 fl
  w3 : Wv CL b H v3
section
variable {TT : List (Addr × Str)} {CL CF a b L x dx : Addr} {xs : List V} {H H' : Hp} {y z d : Str} {f v0 v1 v2 v3 : V} {fl : Bool}
theorem Good.keep (g : Good CL CF x dx y z f d H) (k : ∀ {c : Addr} {o : HO}, H c = some o → (∀ zs, o ≠ .lst zs) → (∀ ps, o ≠ .tbl ps) → H' c = some o) : Good CL CF x dx y z f d H' := by
  obtain ⟨xf, df, fs, e, hf⟩ := g.sh
  exact ⟨k g.at_ (fun _ q => by cases q) (fun _ q => by cases q), ⟨xf, df, fs, e, k hf (fun _ q => by cases q) (fun _ q => by cases q)⟩⟩
theorem Good.same (g : Good CL CF x dx y z f d H) (s : Same H H') : Good CL CF x dx y z f d H' := g.keep fun e _ _ => s _ _ e
theorem Good.ext (g : Good CL CF x dx y z f d H) (s : LamX.ExtN H H') : Good CL CF x dx y z f d H' := g.keep fun e _ t => s _ _ e t
theorem Good.but (g : Good CL CF x dx y z f d H) (B : Box H b) (k : But b H H') : Good CL CF x dx y z f d H' := g.keep fun e n _ => k _ _ (fun q => by
  obtain ⟨i, j, l, hb, _⟩ := B
  rw [q, hb] at e
  cases e
  exact n _ rfl) e
theorem Good.set {o : HO} {ys : List V} (g : Good CL CF x dx y z f d H) (hL : H L = some (.lst ys)) : Good CL CF x dx y z f d (upd H L o) := g.keep fun {c o'} e n _ => by
  have ne : c ≠ L := fun q => by
    rw [q, hL] at e
    cases e
    exact n _ rfl
  rw [upd_ne ne]
  exact e
theorem Told.same (t : Told K TT CL CF b a L xs H v0 v1 v2 v3 fl) (s : Same H H') : Told K TT CL CF b a L xs H' v0 v1 v2 v3 fl :=
  ⟨t.kept.same s, s _ _ t.told, t.w0.same s, t.w1.same s, t.c2.same s, t.w3.same s⟩
theorem Told.ext (t : Told K TT CL CF b a L xs H v0 v1 v2 v3 fl) (s : LamX.ExtN H H') (tb : LamX.Tabs TT H') : Told K TT CL CF b a L xs H' v0 v1 v2 v3 fl :=
  ⟨t.kept.ext s tb, s _ _ t.told (fun _ q => by cases q), t.w0.ext s, t.w1.ext s, t.c2.ext s, t.w3.ext s⟩
theorem Told.but (ne : L ≠ b) (t : Told K TT CL CF b a L xs H v0 v1 v2 v3 fl) (B : Box H' b) (k : But b H H') : Told K TT CL CF b a L xs H' v0 v1 v2 v3 fl :=
  ⟨t.kept.but B k, k _ _ ne t.told, t.w0.but t.kept.box k, t.w1.but t.kept.box k, t.c2.but k t.kept.box B, t.w3.but t.kept.box k⟩
theorem Told.put {u : V} {r : Int} (IF : OwnI K CF) (IL : OwnI K CL) (C : Cls K CL) (no : PySem.W.kitOne K (.ref CL) (.ref CF) = some false) (ne : L ≠ b) (p : Sep K a L xs) (t : Told K TT CL CF b a L xs H v0 v1 v2 v3 fl) (hu : Wv CL b H u) (r0 : 0 ≤ r) (r1 : r < 4) :
    ∃ j, ixN ([v0, v1, v2, v3] : List V).length r = some j ∧ ∃ w0 w1 w2 w3 gl, Told K TT CL CF b a L xs (upd H L (.lst (([v0, v1, v2, v3] : List V).set j u))) w0 w1 w2 w3 gl := by
  have hL := t.told
  have kk : ∀ zs, Kept K TT b a xs (upd H L (.lst zs)) := fun zs => t.kept.set ne p hL
  have e4 : r = 0 ∨ r = 1 ∨ r = 2 ∨ r = 3 := by omega
  rcases e4 with rfl | rfl | rfl | rfl
  · exact ⟨0, rfl, u, v1, v2, v3, fl, kk _, upd_same, hu.set hL, t.w1.set hL, t.c2.set hL, t.w3.set hL⟩
  · exact ⟨1, rfl, v0, u, v2, v3, fl, kk _, upd_same, t.w0.set hL, hu.set hL, t.c2.set hL, t.w3.set hL⟩
  · exact ⟨2, rfl, v0, v1, u, v3, false, kk _, upd_same, t.w0.set hL, t.w1.set hL, (hu.isC IF IL C no).set hL, t.w3.set hL⟩
  · exact ⟨3, rfl, v0, v1, v2, u, fl, kk _, upd_same, t.w0.set hL, t.w1.set hL, t.c2.set hL, hu.set hL⟩
end
/-! what the law says of what it found: None, or sort, word, True -/
def Asc (x : Str) : Prop := ∀ c ∈ x.cps.toList, c < 128
theorem laneDue_asc {v0 v1 v3 : V} {f : Bool} {w : Str} (h : laneDue v0 v1 f v3 = some w) : Asc w := by
  unfold laneDue at h
  split at h
  · cases h; unfold Asc; decide
  split at h
  · cases h; unfold Asc; decide
  split at h
  · cases h; unfold Asc; decide
  split at h
  · cases h; unfold Asc; decide
  · cases h
theorem blockDue_asc {f : Bool} {l : Option (List Bool)} {w : Str} (h : blockDue f l = some w) : Asc w := by
  unfold blockDue at h
  split at h
  · cases h; unfold Asc; decide
  split at h
  · cases h; unfold Asc; decide
  split at h
  · cases h; unfold Asc; decide
  · cases h
theorem strOk_a {x : Str} (h : Asc x) : PyData.strOk x = true := by
  unfold PyData.strOk
  rw [Array.all_eq_true']
  intro c hc
  have := h c (Array.mem_toList_iff.mpr hc)
  exact decide_eq_true (by omega)
theorem three_ok {s w : Str} (hs : Asc s) (hw : Asc w) : okD 1 (.tuple [.str s, .str w, .bool true]) := okD.tuple fun d hd => by
  simp only [List.mem_cons, List.not_mem_nil, or_false] at hd
  rcases hd with rfl | rfl | rfl
  · exact ⟨strOk_a hs, Nat.le_refl _⟩
  · exact ⟨strOk_a hw, Nat.le_refl _⟩
  · exact ⟨rfl, Nat.le_refl _⟩
theorem ne_three {H : Hp} {p q : Addr} {s w : Str} {Q : VK} (hs : Asc s) (hw : Asc w) (hp : H p = some (.tup [.str s, .str w, .bl true])) (hq : H q = some (.tup [.str s, .str w, .bl true])) (k : Q (.bl false) H) : rNeD K (.ref p) (.ref q) H Q := by
  have g : ∀ {c}, H c = some (.tup [.str s, .str w, .bl true]) → Dp K H (.ref c) (.tuple [.str s, .str w, .bool true]) := fun e => .tup (SqT.of e) (.cons (.str _) (.cons (.str _) (.cons (.bl _) .nil)))
  refine ⟨_, _, g hp, g hq, (three_ok hs hw).shaped (by decide), (three_ok hs hw).shaped (by decide), ?_⟩
  rw [eqv_self (three_ok hs hw)]
  exact k
theorem ne_none {H : Hp} {Q : VK} (k : Q (.bl false) H) : rNeD K .non .non H Q := by
  have o : okD 0 .none := ⟨rfl, Nat.le_refl _⟩
  refine ⟨.none, .none, .non, .non, o.shaped (by decide), o.shaped (by decide), ?_⟩
  rw [eqv_self o]
  exact k

end
end K06
namespace K06
open PySem PySem.Spec PyProof.Rows L2 Rs
local macro_rules | `(tactic| walk_at "om") => `(tactic| first | omega | (dsimp only; omega))
local macro_rules | `(tactic| walk_at "side") => `(tactic| first | omega | (dsimp only; omega) | decide | (unfold CMul; omega) | (unfold CDiv; omega) | (unfold CPow; omega) | exact wide_div (b := 64) (by omega) (by omega) (by decide) (by decide))
local macro_rules | `(tactic| walk_at "hp") => `(tactic| first | assumption | exact upd_same)
local macro_rules | `(tactic| walk_at "sq") => `(tactic| first | assumption | exact SqL.of (by assumption) | exact SqL.of upd_same)
local macro_rules | `(tactic| walk_at "st") => `(tactic| first
  | refine ⟨_, rfl, ?_⟩
  | (refine ⟨_, _, rfl, rfl, And.intro ?side ?_⟩; (case side => walk_at "side"))
  | refine ⟨_, _, rfl, rfl, ?_⟩
  | (refine' ⟨_, _, _, _, rfl, rfl, SqL.of ?hp, ?atx, ?_⟩; (case hp => walk_at "hp"); (case atx => exact rfl))
  | (refine' ⟨_, _, _, _, rfl, rfl, ?hp, ?atx, ?_⟩; (case hp => walk_at "hp"); (case atx => exact rfl))
  | (refine' ⟨_, _, rfl, Or.inl ?sq, ?_⟩; (case sq => walk_at "sq"))
  | refine Or.inl ⟨_, rfl, ?_⟩
  | refine Or.inr ⟨_, rfl, ?_⟩)
local macro_rules | `(tactic| walk_at "evd") => `(tactic| first
  | exact evd_int
  | exact evd_str
  | exact evd_non
  | exact evd_bl
  | exact evd_nil
  | (refine evd_cons ?_ (fun _ => ?_) <;> walk_at "evd")
  | (refine evd_tup ?_ (Nat.le_of_ble_eq_true rfl); walk_at "evd"))

section
variable {P : Program} {w : World} {K : PySem.W.Frag} {mg : Str → Option Value} {base : Heap}
/-! pieces of the law's turn -/
theorem ev_go {te : TE} {σ : L2.St} {H : Hp} {Q : VK} (R : V → Hp → Prop) (h : ∀ Q' : VK, (∀ v H', R v H' → Q' v H') → te σ H Q') (k : ∀ v H', R v H' → Q v H') : te σ H Q := h Q k
/-- a value as a sequence, not at b -/
def SeqE (K : PySem.W.Frag) (CL b : Addr) (H : Hp) (v : V) : Prop := ∃ l, SeqD K CL H v l ∧ ∀ a, v = .ref a → a ≠ b
section
variable {TT : List (Addr × Str)} {CL CF a b L x dx : Addr} {xs : List V} {H H' : Hp} {y z d : Str} {f v : V}
theorem SeqE.same (h : SeqE K CL b H v) (s : Same H H') : SeqE K CL b H' v := by
  obtain ⟨l, q, n⟩ := h
  exact ⟨l, q.same s, n⟩
theorem IsAll.but (k : But b H H') (B : Box H b) (B' : Box H' b) : ∀ {vs : List V} {rs : List Bool}, IsAll K CL H vs rs → IsAll K CL H' vs rs
  | [], [], _ => trivial
  | [], _ :: _, h => h.elim
  | _ :: _, [], h => h.elim
  | _ :: _, _ :: _, h => ⟨h.1.but k B B', IsAll.but k B B' h.2⟩
theorem SeqE.but (h : SeqE K CL b H v) (k : But b H H') (B : Box H b) (B' : Box H' b) : SeqE K CL b H' v := by
  obtain ⟨l, q, n⟩ := h
  refine ⟨l, ?_, n⟩
  cases l with
  | none =>
    obtain ⟨t, ty, kt⟩ := q
    exact ⟨t, tyx_but k B B' ty, kt⟩
  | some rs =>
    obtain ⟨c, ys, e, h, l, al⟩ := q
    exact ⟨c, ys, e, h.imp (k _ _ (n c e)) (k _ _ (n c e)), l, al.but k B B'⟩
/-- a new list or tuple of things -/
theorem seq_new {ys : List V} {rs : List Bool} {c : Addr} (ne : c ≠ b) (h : H c = some (.lst ys) ∨ H c = some (.tup ys)) (l : ys.length ≤ 1000) (al : IsAll K CL H ys rs) : SeqE K CL b H (.ref c) :=
  ⟨some rs, ⟨c, ys, rfl, h, l, al⟩, fun a e => by cases e; exact ne⟩
theorem Good.isL (T : Txt K mg) (g : Good T.c_Lane T.c_Form x dx y z f d H) : IsC K T.c_Lane H (.ref x) true := ⟨_, T.I_Lane.ty T.C_Lane g.at_, kit_self⟩
theorem Good.isF (T : Txt K mg) (g : Good T.c_Lane T.c_Form x dx y z f d H) : IsC K T.c_Form H f true := by
  obtain ⟨xf, df, fs, e, hf⟩ := g.sh
  subst e
  exact ⟨_, T.I_Form.ty T.C_Form hf, kit_self⟩
theorem Good.noL (T : Txt K mg) (g : Good T.c_Lane T.c_Form x dx y z f d H) : IsC K T.c_Lane H f false := by
  obtain ⟨xf, df, fs, e, hf⟩ := g.sh
  subst e
  exact ⟨_, T.I_Form.ty T.C_Form hf, T.kit_Form_Lane⟩
end
def spAnyE : Sp := fun vs H Q E => spAny 2 vs H Q E ∨ spAny 3 vs H Q E
def tOdd : TE := tLst (tCons (tCall (fun vs H Q E => spAny 2 vs H Q E ∨ spAny 3 vs H Q E) [] E0 (tCons (tVar 2) (tCons (tC (.int 3)) tNil))) (tCons (tC (.str (Str.ofString "up"))) (tCons (tC (.str (Str.ofString "+"))) (tCons (tC (.str (Str.ofString "add"))) (tCons (tC .non) (tCons (tC (.str (Str.ofString "n"))) (tCons (tC (.int 0)) (tCons (tVar 5) (tCons (tLst (tCons (tC (.str (Str.ofString "up"))) tNil)) (tCons (tC (.str (Str.ofString "Up"))) (tCons (tC (.str (Str.ofString ""))) tNil)))))))))))
theorem ev_odd (T : Txt K mg) {b x dx : Addr} {y z d : Str} {f : V} {σ : L2.St} {H : Hp} (h2 : σ[2]? = some (some (.ref b))) (h5 : σ[5]? = some (some (.ref x))) (B : Box H b) (g : Good T.c_Lane T.c_Form x dx y z f d H) (Q : VK)
    (k : ∀ v H', (∃ O odd, v = .ref O ∧ H' O = some (.lst odd) ∧ O ≠ b ∧ odd.length = 11 ∧ (∀ u ∈ odd, Wv T.c_Lane b H' u) ∧ Box H' b ∧ But b H H') → Q v H') : tOdd σ H Q := by
  refine ⟨_, h2, .inr ⟨b, rfl, B, fun u1 H9 hu1 B9 k9 => ?_⟩⟩
  refine ⟨_, h5, szL (Nat.le_of_ble_eq_true rfl), fun U nU => ⟨szL (Nat.le_of_ble_eq_true rfl), fun O nO => ?_⟩⟩
  have sU := same_new (o := .lst [.str (Str.ofString "up")]) nU
  have hU : upd H9 U (.lst [.str (Str.ofString "up")]) U = some (.lst [.str (Str.ofString "up")]) := upd_same
  have neU := B9.ne_none nU
  have B10 := B9.same sU
  have neO := B10.ne_none nO
  have sO := same_new (o := .lst [u1, .str (Str.ofString "up"), .str (Str.ofString "+"), .str (Str.ofString "add"), .non, .str (Str.ofString "n"), .int 0, .ref x, .ref U, .str (Str.ofString "Up"), .str (Str.ofString "")]) nO
  have g9 := (g.but B k9).same (sU.trans sO)
  refine k _ _ ⟨O, _, rfl, upd_same, neO, rfl, fun u hu => ?_, B10.same sO, (k9.trans (But.of_same sU)).trans (But.of_same sO)⟩
  simp only [List.mem_cons, List.not_mem_nil, or_false] at hu
  rcases hu with rfl | rfl | rfl | rfl | rfl | rfl | rfl | rfl | rfl | rfl | rfl
  · exact Wv.same (.inl hu1.sh) (sU.trans sO)
  · exact .inl trivial
  · exact .inl trivial
  · exact .inl trivial
  · exact .inl trivial
  · exact .inl trivial
  · exact .inl trivial
  · exact .inr ⟨x, dx, _, rfl, g9.at_⟩
  · exact .inl ⟨neU, .inl ⟨_, sO _ _ hU⟩⟩
  · exact .inl trivial
  · exact .inl trivial
def tRounds (K : PySem.W.Frag) : TE := tCall spPick [] E0 (tCons (tVar 2) (tCons (tLst (tCons (tFld K (tVar 5) (Str.ofString "shift")) (tCons (tFld K (tVar 5) (Str.ofString "shift")) (tCons (tC (.str (Str.ofString "n"))) (tCons (tC (.int 3)) (tCons (tC .non) (tCons (tCall (fun vs H Q E => spAny 2 vs H Q E ∨ spAny 3 vs H Q E) [] E0 (tCons (tVar 2) (tCons (tC (.int 2)) tNil))) tNil))))))) tNil))
theorem ev_rounds (T : Txt K mg) {b x dx : Addr} {y z d : Str} {f : V} {σ : L2.St} {H : Hp} (h2 : σ[2]? = some (some (.ref b))) (h5 : σ[5]? = some (some (.ref x))) (B : Box H b) (g : Good T.c_Lane T.c_Form x dx y z f d H) (Q : VK)
    (k : ∀ v H', (∃ r, IsC K T.c_Form H' v r ∧ Box H' b ∧ But b H H') → Q v H') : tRounds K σ H Q := by
  refine ⟨_, h2, _, h5, x, _, dx, _, _, rfl, g.at_, T.C_Lane, T.n_Lane_shift, rfl, _, h5, x, _, dx, _, _, rfl, g.at_, T.C_Lane, T.n_Lane_shift, rfl, ?_⟩
  refine ⟨_, h2, .inl ⟨b, rfl, B, fun u1 H9 hu1 B9 k9 => ?_⟩⟩
  refine ⟨szL (Nat.le_of_ble_eq_true rfl), fun O nO => ?_⟩
  have sO := same_new (o := .lst [f, f, .str (Str.ofString "n"), .int 3, .non, u1]) nO
  have g9 := g.but B k9
  refine ⟨b, O, _, rfl, B9.same sO, B9.ne_none nO, upd_same, by show 0 < 6; decide, by show 6 < 1000; decide, fun u H11 hu B11 k11 => ?_⟩
  have kk := (k9.trans (But.of_same sO)).trans k11
  have g11 := (g9.same sO).but (B9.same sO) k11
  simp only [List.mem_cons, List.not_mem_nil, or_false] at hu
  have sh : ∀ {w : V}, Sh b H11 w → IsC K T.c_Form H11 w false := fun h => Sh.isC T.I_Form h
  rcases hu with rfl | rfl | rfl | rfl | rfl | rfl
  · exact k _ _ ⟨true, g11.isF T, B11, kk⟩
  · exact k _ _ ⟨true, g11.isF T, B11, kk⟩
  · exact k _ _ ⟨false, sh (show Sh b H11 (.str (Str.ofString "n")) from trivial), B11, kk⟩
  · exact k _ _ ⟨false, sh (show Sh b H11 (.int 3) from trivial), B11, kk⟩
  · exact k _ _ ⟨false, sh (show Sh b H11 (.non) from trivial), B11, kk⟩
  · exact k _ _ ⟨false, sh ((hu1.sh.but (But.of_same sO)).but k11), B11, kk⟩
def tLanes : TE := tLst (tCons (tLst (tCons (tVar 5) tNil)) (tCons (tTup (tCons (tVar 5) (tCons (tVar 5) tNil))) (tCons (tLst tNil) (tCons (tTup tNil) (tCons (tLst (tCons (tVar 5) (tCons (tC (.str (Str.ofString "up - 0 add"))) tNil))) (tCons (tVar 5) (tCons (tC .non) (tCons (tLst (tCons (tC .non) tNil)) (tCons (tCall (fun vs H Q E => spAny 2 vs H Q E ∨ spAny 3 vs H Q E) [] E0 (tCons (tVar 2) (tCons (tC (.int 3)) tNil))) tNil)))))))))
theorem ev_lanes (T : Txt K mg) {b x dx : Addr} {y z d : Str} {f : V} {σ : L2.St} {H : Hp} (h2 : σ[2]? = some (some (.ref b))) (h5 : σ[5]? = some (some (.ref x))) (B : Box H b) (g : Good T.c_Lane T.c_Form x dx y z f d H) (Q : VK)
    (k : ∀ v H', (∃ LL us, v = .ref LL ∧ H' LL = some (.lst us) ∧ LL ≠ b ∧ us.length = 9 ∧ (∀ u ∈ us, SeqE K T.c_Lane b H' u) ∧ Box H' b ∧ But b H H') → Q v H') : tLanes σ H Q := by
  have shC : ∀ {H' : Hp} {w : V}, Sh b H' w → IsC K T.c_Lane H' w false := fun h => Sh.isC T.I_Lane h
  refine ⟨_, h5, szL (Nat.le_of_ble_eq_true rfl), fun P1 n1 => ?_⟩
  have s1 := same_new (o := .lst [.ref x]) n1
  have e1 : upd H P1 (.lst [.ref x]) P1 = some (.lst [.ref x]) := upd_same
  have q1 := B.ne_none n1
  have B1 := B.same s1
  have g1 := g.same s1
  have z1 : SeqE K T.c_Lane b (upd H P1 (.lst [.ref x])) (.ref P1) := seq_new (rs := [true]) q1 (.inl e1) (by show 1 ≤ 1000; decide) ⟨g1.isL T, trivial⟩
  generalize upd H P1 (.lst [.ref x]) = H1 at s1 e1 B1 g1 z1 ⊢
  refine ⟨_, h5, _, h5, szL (Nat.le_of_ble_eq_true rfl), fun P2 n2 => ?_⟩
  have s2 := same_new (o := .tup [.ref x, .ref x]) n2
  have e2 : upd H1 P2 (.tup [.ref x, .ref x]) P2 = some (.tup [.ref x, .ref x]) := upd_same
  have q2 := B1.ne_none n2
  have B2 := B1.same s2
  have g2 := g1.same s2
  have z2 : SeqE K T.c_Lane b (upd H1 P2 (.tup [.ref x, .ref x])) (.ref P2) := seq_new (rs := [true, true]) q2 (.inr e2) (by show 2 ≤ 1000; decide) ⟨g2.isL T, g2.isL T, trivial⟩
  generalize upd H1 P2 (.tup [.ref x, .ref x]) = H2 at s2 e2 B2 g2 z2 ⊢
  refine ⟨szL (Nat.le_of_ble_eq_true rfl), fun P3 n3 => ?_⟩
  have s3 := same_new (o := .lst []) n3
  have e3 : upd H2 P3 (.lst []) P3 = some (.lst []) := upd_same
  have q3 := B2.ne_none n3
  have B3 := B2.same s3
  have g3 := g2.same s3
  have z3 : SeqE K T.c_Lane b (upd H2 P3 (.lst [])) (.ref P3) := seq_new (rs := []) q3 (.inl e3) (Nat.zero_le _) trivial
  generalize upd H2 P3 (.lst []) = H3 at s3 e3 B3 g3 z3 ⊢
  refine ⟨szL (Nat.le_of_ble_eq_true rfl), fun P4 n4 => ?_⟩
  have s4 := same_new (o := .tup []) n4
  have e4 : upd H3 P4 (.tup []) P4 = some (.tup []) := upd_same
  have q4 := B3.ne_none n4
  have B4 := B3.same s4
  have g4 := g3.same s4
  have z4 : SeqE K T.c_Lane b (upd H3 P4 (.tup [])) (.ref P4) := seq_new (rs := []) q4 (.inr e4) (Nat.zero_le _) trivial
  generalize upd H3 P4 (.tup []) = H4 at s4 e4 B4 g4 z4 ⊢
  refine ⟨_, h5, szL (Nat.le_of_ble_eq_true rfl), fun P5 n5 => ?_⟩
  have s5 := same_new (o := .lst [.ref x, .str (Str.ofString "up - 0 add")]) n5
  have e5 : upd H4 P5 (.lst [.ref x, .str (Str.ofString "up - 0 add")]) P5 = some (.lst [.ref x, .str (Str.ofString "up - 0 add")]) := upd_same
  have q5 := B4.ne_none n5
  have B5 := B4.same s5
  have g5 := g4.same s5
  have z5 : SeqE K T.c_Lane b (upd H4 P5 (.lst [.ref x, .str (Str.ofString "up - 0 add")])) (.ref P5) := seq_new (rs := [true, false]) q5 (.inl e5) (by show 2 ≤ 1000; decide) ⟨g5.isL T, shC (show Sh b _ (.str _) from trivial), trivial⟩
  generalize upd H4 P5 (.lst [.ref x, .str (Str.ofString "up - 0 add")]) = H5 at s5 e5 B5 g5 z5 ⊢
  refine ⟨_, h5, szL (Nat.le_of_ble_eq_true rfl), fun P6 n6 => ?_⟩
  have s6 := same_new (o := .lst [.non]) n6
  have e6 : upd H5 P6 (.lst [.non]) P6 = some (.lst [.non]) := upd_same
  have q6 := B5.ne_none n6
  have B6 := B5.same s6
  have g6 := g5.same s6
  have z6 : SeqE K T.c_Lane b (upd H5 P6 (.lst [.non])) (.ref P6) := seq_new (rs := [false]) q6 (.inl e6) (by show 1 ≤ 1000; decide) ⟨shC (show Sh b _ .non from trivial), trivial⟩
  generalize upd H5 P6 (.lst [.non]) = H6 at s6 e6 B6 g6 z6 ⊢
  have z1 := ((((z1.same s2).same s3).same s4).same s5).same s6
  have z2 := (((z2.same s3).same s4).same s5).same s6
  have z3 := ((z3.same s4).same s5).same s6
  have z4 := (z4.same s5).same s6
  have z5 := z5.same s6
  have s16 := s1.trans (s2.trans (s3.trans (s4.trans (s5.trans s6))))
  refine ⟨_, h2, .inr ⟨b, rfl, B6, fun u1 H7 hu1 B7 k7 => ?_⟩⟩
  have g7 := g6.but B6 k7
  refine ⟨szL (Nat.le_of_ble_eq_true rfl), fun LL nL => ?_⟩
  have sL := same_new (o := .lst [.ref P1, .ref P2, .ref P3, .ref P4, .ref P5, .ref x, .non, .ref P6, u1]) nL
  refine k _ _ ⟨LL, _, rfl, upd_same, B7.ne_none nL, rfl, fun u hu => ?_, B7.same sL, ((But.of_same s16).trans k7).trans (But.of_same sL)⟩
  simp only [List.mem_cons, List.not_mem_nil, or_false] at hu
  rcases hu with rfl | rfl | rfl | rfl | rfl | rfl | rfl | rfl | rfl
  · exact (z1.but k7 B6 B7).same sL
  · exact (z2.but k7 B6 B7).same sL
  · exact (z3.but k7 B6 B7).same sL
  · exact (z4.but k7 B6 B7).same sL
  · exact (z5.but k7 B6 B7).same sL
  · refine SeqE.same ⟨none, ⟨_, T.I_Lane.ty T.C_Lane g7.at_, mro_list T.N_Lane⟩, fun a e => ?_⟩ sL
    cases e
    intro q
    have h := g7.at_
    obtain ⟨i, j, l, hb, _⟩ := B7
    rw [q, hb] at h
    cases h
  · refine ⟨none, ⟨.type "NoneType", .base .non, kitAny_cons (kit_ty (by decide +kernel : kitB "NoneType" "list" = some false)) (fun _ => kitAny_cons (kit_ty (by decide +kernel : kitB "NoneType" "tuple" = some false)) (fun _ => kitAny_nil) fun q => Bool.noConfusion q) fun q => Bool.noConfusion q⟩, fun a e => by cases e⟩
  · exact (z6.but k7 B6 B7).same sL
  · obtain ⟨l, q⟩ := Sh.seq T.I_Lane hu1
    refine SeqE.same ⟨l, q, fun a e => ?_⟩ sL
    subst e
    exact hu1.1
def tBoth (K : PySem.W.Frag) : TE := tLst (tCons (tVar 11) (tCons (tCall spPick [] E0 (tCons (tVar 2) (tCons (tOp rCat (tVar 12) (tLst (tCons (tLst (tCons (tFld K (tVar 5) (Str.ofString "shift")) tNil)) tNil))) tNil))) tNil))
theorem ev_both (T : Txt K mg) {b x dx LL : Addr} {y z d : Str} {f vr : V} {us : List V} {σ : L2.St} {H : Hp} {r : Bool} (h2 : σ[2]? = some (some (.ref b))) (h5 : σ[5]? = some (some (.ref x))) (h11 : σ[11]? = some (some vr)) (h12 : σ[12]? = some (some (.ref LL))) (B : Box H b) (g : Good T.c_Lane T.c_Form x dx y z f d H)
    (hr : IsC K T.c_Form H vr r) (hL : H LL = some (.lst us)) (neL : LL ≠ b) (lu : us.length = 9) (hus : ∀ u ∈ us, SeqE K T.c_Lane b H u) (Q : VK)
    (k : ∀ v H', (∃ BB u l, v = .ref BB ∧ H' BB = some (.lst [vr, u]) ∧ IsC K T.c_Form H' vr r ∧ SeqD K T.c_Lane H' u l ∧ Box H' b ∧ But b H H') → Q v H') : tBoth K σ H Q := by
  refine ⟨_, h11, _, h2, _, h12, _, h5, x, _, dx, _, _, rfl, g.at_, T.C_Lane, T.n_Lane_shift, rfl, ?_⟩
  refine ⟨szL (Nat.le_of_ble_eq_true rfl), fun P7 n7 => ?_⟩
  have s7 := same_new (o := .lst [f]) n7
  have e7 : upd H P7 (.lst [f]) P7 = some (.lst [f]) := upd_same
  have q7 := B.ne_none n7
  have B7 := B.same s7
  have g7 := g.same s7
  have hL7 := s7 _ _ hL
  have z7 : SeqE K T.c_Lane b (upd H P7 (.lst [f])) (.ref P7) := seq_new (rs := [false]) q7 (.inl e7) (by show 1 ≤ 1000; decide) ⟨g7.noL T, trivial⟩
  generalize upd H P7 (.lst [f]) = H7 at s7 e7 B7 g7 z7 hL7 ⊢
  refine ⟨szL (Nat.le_of_ble_eq_true rfl), fun P8 n8 => ?_⟩
  have s8 := same_new (o := .lst [.ref P7]) n8
  have B8 := B7.same s8
  refine ⟨LL, P8, _, _, rfl, rfl, s8 _ _ hL7, upd_same, by have := sizeLine_eq; rw [lu]; show 9 + 1 ≤ sizeLine; omega, fun P9 n9 => ?_⟩
  have s9 := same_new (o := .lst (us ++ [.ref P7])) n9
  refine ⟨b, P9, _, rfl, B8.same s9, B8.ne_none n9, upd_same, by rw [List.length_append, lu, List.length_singleton]; decide, by rw [List.length_append, lu, List.length_singleton]; decide, fun u H10 hu B10 k10 => ?_⟩
  have s79 := s7.trans (s8.trans s9)
  have hu10 : SeqE K T.c_Lane b H10 u := by
    rcases List.mem_append.mp hu with h | h
    · exact ((hus u h).same s79).but k10 (B8.same s9) B10
    · rw [List.mem_singleton.mp h]
      exact (z7.same (s8.trans s9)).but k10 (B8.same s9) B10
  obtain ⟨l, hl, _⟩ := hu10
  have hr10 := (hr.same s79).but k10 (B8.same s9) B10
  refine ⟨szL (Nat.le_of_ble_eq_true rfl), fun BB nB => ?_⟩
  have sB := same_new (o := .lst [vr, u]) nB
  exact k _ _ ⟨BB, u, l, rfl, upd_same, hr10.same sB, hl.same sB, B10.same sB, ((But.of_same s79).trans k10).trans (But.of_same sB)⟩
/-- the word that is due, as the law tells it -/
def DueT (s : Str) (o : Option Str) (v : V) (H : Hp) : Prop := (o = none ∧ v = .non) ∨ ∃ wd p, o = some wd ∧ v = .ref p ∧ H p = some (.tup [.str s, .str wd, .bl true])
def tDue (i : Nat) (s : Str) : TE := tIf (tTest (tOp (fun x y H Q => y = V.non ∧ Q (V.bl (decide (x = V.non))) H) (tVar i) (tC V.non))) (tC V.non) (tTup (tCons (tC (.str s)) (tCons (tVar i) (tCons (tC (.bl true)) tNil))))
theorem ev_due {i : Nat} {s : Str} {o : Option Str} {σ : L2.St} {H : Hp} (hi : σ[i]? = some (some (dueV o))) (Q : VK) (k : ∀ v H', (DueT s o v H' ∧ Same H H') → Q v H') : tDue i s σ H Q := by
  cases o with
  | none => exact ⟨_, hi, rfl, _, rfl, ifT rfl (k _ _ ⟨.inl ⟨rfl, rfl⟩, Same.refl _⟩)⟩
  | some wd =>
    refine ⟨_, hi, rfl, _, rfl, ifF rfl ?_⟩
    refine ⟨_, hi, szL (Nat.le_of_ble_eq_true rfl), fun p np => ?_⟩
    exact k _ _ ⟨.inr ⟨wd, p, rfl, rfl, upd_same⟩, same_new np⟩
theorem ev_ltest {TT : List (Addr × Str)} {CL CF CIL CIB a b L : Addr} {xs : List V} {σ : L2.St} {H : Hp} {v0 v1 v2 v3 vd : V} {fl : Bool} (t : Told K TT CL CF b a L xs H v0 v1 v2 v3 fl) (h6 : σ[6]? = some (some (.ref L))) (h10 : σ[10]? = some (some vd)) (hd : DueT (Str.ofString "lane") (laneDue v0 v1 fl v3) vd H) (Q : VK)
    (k : ∀ v H', (v = .bl false ∧ LamX.ExtN H H' ∧ LamX.Tabs TT H') → Q v H') : tOp (rNeD K) (LamX.tLam TT (TTr CIL CIB) (tLaneB K CL CF CIL)) (tVar 10) σ H Q := by
  refine lane_wish (b := b) t.kept.tb h6 t.told t.w0 t.w1 t.c2 t.w3 (fun e H1 x1 t1 => ?_) (fun wd e H1 p x1 t1 hp => ?_)
  · rcases hd with ⟨_, rfl⟩ | ⟨wd, q, e2, _⟩
    · exact ⟨_, h10, ne_none (k _ _ ⟨rfl, x1, t1⟩)⟩
    · rw [e] at e2
      cases e2
  · rcases hd with ⟨e2, _⟩ | ⟨wd2, q, e2, rfl, hq⟩
    · rw [e] at e2
      cases e2
    · rw [e] at e2
      cases e2
      exact ⟨_, h10, ne_three (by unfold Asc; decide) (laneDue_asc e) hp (x1 _ _ hq fun _ q => by cases q) (k _ _ ⟨rfl, x1, t1⟩)⟩
theorem ev_btest {TT : List (Addr × Str)} {CB CL CF CIL CIB BB : Addr} {σ : L2.St} {H : Hp} {vr u vd : V} {r : Bool} {l : Option (List Bool)} (tb : LamX.Tabs TT H) (hB : H BB = some (.lst [vr, u])) (cr : IsC K CF H vr r) (su : SeqD K CL H u l) (h13 : σ[13]? = some (some (.ref BB))) (h10 : σ[10]? = some (some vd)) (hd : DueT (Str.ofString "block") (blockDue r l) vd H) (Q : VK)
    (k : ∀ v H', (v = .bl false ∧ LamX.ExtN H H' ∧ LamX.Tabs TT H') → Q v H') : tOp (rNeD K) (LamX.tLam TT (TTr CIL CIB) (tBlockB K CB CF CL CIB)) (tVar 10) σ H Q := by
  refine block_wish tb h13 hB cr su (fun e H1 x1 t1 => ?_) (fun wd e H1 p x1 t1 hp => ?_)
  · rcases hd with ⟨_, rfl⟩ | ⟨wd, q, e2, _⟩
    · exact ⟨_, h10, ne_none (k _ _ ⟨rfl, x1, t1⟩)⟩
    · rw [e] at e2
      cases e2
  · rcases hd with ⟨e2, _⟩ | ⟨wd2, q, e2, rfl, hq⟩
    · rw [e] at e2
      cases e2
    · rw [e] at e2
      cases e2
      exact ⟨_, h10, ne_three (by unfold Asc; decide) (blockDue_asc e) hp (x1 _ _ hq fun _ q => by cases q) (k _ _ ⟨rfl, x1, t1⟩)⟩
theorem DueT.same {s : Str} {o : Option Str} {v : V} {H H' : Hp} (h : DueT s o v H) (k : Same H H') : DueT s o v H' := h.imp id fun ⟨wd, p, a, b, c⟩ => ⟨wd, p, a, b, k _ _ c⟩
theorem Kept.got {TT : List (Addr × Str)} {a b : Addr} {xs : List V} {H H' : Hp} (h : Kept K TT b a xs H) (x : LamX.ExtN H H') (t : LamX.Tabs TT H') : Kept K TT b a xs H' := h.ext x t

end
end K06
namespace K06
open PySem PySem.Spec PyProof.Rows L2 Rs
local macro_rules | `(tactic| walk_at "om") => `(tactic| first | omega | (dsimp only; omega))
local macro_rules | `(tactic| walk_at "side") => `(tactic| first | omega | (dsimp only; omega) | decide | (unfold CMul; omega) | (unfold CDiv; omega) | (unfold CPow; omega) | exact wide_div (b := 64) (by omega) (by omega) (by decide) (by decide))
local macro_rules | `(tactic| walk_at "hp") => `(tactic| first | assumption | exact upd_same)
local macro_rules | `(tactic| walk_at "sq") => `(tactic| first | assumption | exact SqL.of (by assumption) | exact SqL.of upd_same)
local macro_rules | `(tactic| walk_at "st") => `(tactic| first
  | refine ⟨_, rfl, ?_⟩
  | (refine ⟨_, _, rfl, rfl, And.intro ?side ?_⟩; (case side => walk_at "side"))
  | refine ⟨_, _, rfl, rfl, ?_⟩
  | (refine' ⟨_, _, _, _, rfl, rfl, SqL.of ?hp, ?atx, ?_⟩; (case hp => walk_at "hp"); (case atx => exact rfl))
  | (refine' ⟨_, _, _, _, rfl, rfl, ?hp, ?atx, ?_⟩; (case hp => walk_at "hp"); (case atx => exact rfl))
  | (refine' ⟨_, _, rfl, Or.inl ?sq, ?_⟩; (case sq => walk_at "sq"))
  | refine Or.inl ⟨_, rfl, ?_⟩
  | refine Or.inr ⟨_, rfl, ?_⟩)
local macro_rules | `(tactic| walk_at "evd") => `(tactic| first
  | exact evd_int
  | exact evd_str
  | exact evd_non
  | exact evd_bl
  | exact evd_nil
  | (refine evd_cons ?_ (fun _ => ?_) <;> walk_at "evd")
  | (refine evd_tup ?_ (Nat.le_of_ble_eq_true rfl); walk_at "evd"))

section
variable {P : Program} {w : World} {K : PySem.W.Frag} {mg : Str → Option Value} {base : Heap}
theorem ifs_go {c : TT} {t u : TS} {D : Ends} {σ : L2.St} {H : Hp} (h : c σ H fun b H1 => if b = true then t D σ H1 else u D σ H1) : tIfS c t u D σ H := h
def spLaw (K : PySem.W.Frag) (TT : List NdefX.NTab) : Sp := fun vs H Q _ => ∃ (a : Addr) (ns : List Int), vs = [.ref a] ∧ SqL K H a (ns.map V.int) ∧ ns.length ≤ 63 ∧ NdefX.TabsN TT H ∧ ∀ H', Q (.bl true) H'
theorem tabs_of {P : Addr} {q : Str} {H : Hp} (h : NdefX.TabsN [(P, fun _ _ => q)] H) : LamX.Tabs [(P, q)] H := fun p hp => by
  rw [List.mem_singleton.mp hp]
  exact h _ (List.mem_singleton.mpr rfl)
theorem ok_law (T : Txt K mg) (hTB : LamX.TabB base mg T.tc_law T.tp_law) : FnOk P w K mg base CX0 12 T.a_law T.d_law ["_law_script"] (spLaw K (tabsT T)) := by
  have G__law_take : FnOk P w K mg base CX0 1 T.a__law_take T.d__law_take ["_law_box_here", "_law_many"] spTake := ok_take T
  have G__law_pick : FnOk P w K mg base CX0 2 T.a__law_pick T.d__law_pick ["_law_box_here", "_law_some"] spPick := ok_pick T
  have G__law_box : FnOk P w K mg base CX0 1 T.a__law_box T.d__law_box ["_law_script", "_law_k"] (spBox K) := ok_box T
  have G__law_lane : FnOk P w K mg base CX0 4 T.a__law_lane T.d__law_lane ["_law_box_here", "_law_far"] spLane := ok_lane T
  have G__law_lane_of : FnOk P w K mg base CX0 8 T.a__law_lane_of T.d__law_lane_of ["_law_lane_here"] (spLaneOf T.c_Lane T.c_Form) := ok_lane_of T
  have G__law_lane_due : FnOk P w K mg base CX0 4 T.a__law_lane_due T.d__law_lane_due ["_law_told"] (spLaneDue K T.c_Lane T.c_Form) := ok_lane_due T
  have G__law_block_due : FnOk P w K mg base CX0 4 T.a__law_block_due T.d__law_block_due ["_law_told"] (spBlockDue K T.c_Lane T.c_Form) := ok_block_due T
  have A2 : FnOk P w K mg base CX0 5 T.a__law_any T.d__law_any ["_law_box_here", "_law_deep"] (spAny 2) := ok_any T 2
  have A3 : FnOk P w K mg base CX0 6 T.a__law_any T.d__law_any ["_law_box_here", "_law_deep"] (spAny 3) := ok_any T 3
  have G__law_any : FnOk P w K mg base CX0 6 T.a__law_any T.d__law_any ["_law_box_here", "_law_deep"] (fun vs H Q E => spAny 2 vs H Q E ∨ spAny 3 vs H Q E) := ⟨fun vs H Q E h => h.elim (A2.len vs H Q E) (A3.len vs H Q E), fun A outer s H args us vs Q E hr e0 bd r h => h.elim (A2.run A outer s H args us vs Q E (hr.mono (by decide)) e0 bd r) (A3.run A outer s H args us vs Q E hr e0 bd r)⟩
  have GI_LaneA : FnOk P w K mg base (L2.CX P w) 5 T.a_Lane___init__ T.d_Lane___init__ ["self", "way", "sign", "shift", "deed"] (spLaneA K T.c_Lane T.c_Form T.c_InvalidLane) := ok_laneA T
  have GI_BlockA : FnOk P w K mg base (L2.CX P w) 5 T.a_Block___init__ T.d_Block___init__ ["self", "rounds", "lanes"] (spBlockA K T.c_Block T.c_Form T.c_Lane T.c_InvalidBlock) := ok_blockA T
  refine Fun.okC T.F_law sc_law (fun vs H Q E h => ?_) (fun cdv hcdv A outer s H vs Q E hr h => ?_)
  · obtain ⟨a, ns, rfl, _⟩ := h
    rfl
  · obtain ⟨a, ns, rfl, hS, hlen, tb, k⟩ := h
    have nd := sc_law.nd
    have hcode : cdv = .ref T.tc_law := hcdv.symm.trans T.cd_law
    refine ⟨_, (pss_cons (ps_for PassesOwn.never rfl (pi_range1 (by rfl) T.z_range (pa_cons (pe_callB (call_max2 rfl) (by rfl) T.z_max (by decide +kernel) (pa_cons pe_int (pa_cons (pe_callB (call_min2 rfl) (by rfl) T.z_min (by decide +kernel) (pa_cons pe_int (pa_cons (pe_callB call_len_seq (by rfl) T.z_len (by decide +kernel) (pa_cons (pv 0) pa_nil)) pa_nil))) pa_nil))) pa_nil)) (pg_name (i := 1) nd rfl (Or.inl rfl))
    (pss_cons (ps_set (i := 2) nd rfl (Or.inl rfl) (pe_call G__law_box (hr.mono (by first | decide | omega)) (by rfl) T.m__law_box T.k__law_box T.b__law_box .nil pass0 (pa_cons (pv 0) (pa_cons (pv 1) pa_nil))))
    (pss_one (ps_for PassesOwn.never rfl (pi_range1 (by rfl) T.z_range (pa_cons pe_int pa_nil)) (pg_name (i := 3) nd rfl (Or.inl rfl))
    (pss_cons (ps_set (i := 4) nd rfl (Or.inl rfl) (pe_call G__law_lane (hr.mono (by first | decide | omega)) (by rfl) T.m__law_lane T.k__law_lane T.b__law_lane .nil pass0 (pa_cons (pv 2) (pa_cons pe_int pa_nil))))
    (pss_cons (ps_set (i := 5) nd rfl (Or.inl rfl) (pe_call G__law_lane_of (hr.mono (by first | decide | omega)) (by rfl) T.m__law_lane_of T.k__law_lane_of T.b__law_lane_of .nil pass0 (pa_cons (pv 4) pa_nil)))
    (pss_cons (ps_set (i := 6) nd rfl (Or.inr rfl) (pe_lst (pa_cons (pe_fld (pv 5) rfl) (pa_cons (pe_fld (pv 5) rfl) (pa_cons (pe_fld (pv 5) rfl) (pa_cons (pe_fld (pv 5) rfl) pa_nil))))))
    (pss_cons (ps_if (pt_cmpR op_notN (refused_here T hTB hcode rfl (hr.mono (by decide)) (LamX.lamS_by (by rfl)) rfl (fun _ _ _ _ _ => rfl) (t := tLaneB K T.c_Lane T.c_Form T.c_InvalidLane) (fun A outer s H E f c' hr2 => pe_makeS T.M_Lane GI_LaneA (hr2.mono (by decide)) rfl T.m_Lane T.b_Lane___init__ (takes_of rfl rfl rfl rfl) (pa_cons (pe_ix ix_seq (pe_var (i := 6) rfl (Or.inr (Or.inr rfl))) pe_int (fun _ _ => rfl)) (pa_cons (pe_ix ix_seq (pe_var (i := 6) rfl (Or.inr (Or.inr rfl))) pe_int (fun _ _ => rfl)) (pa_cons (pe_ix ix_seq (pe_var (i := 6) rfl (Or.inr (Or.inr rfl))) pe_int (fun _ _ => rfl)) (pa_cons (pe_ix ix_seq (pe_var (i := 6) rfl (Or.inr (Or.inr rfl))) pe_int (fun _ _ => rfl)) pa_nil)))))) pe_non (nomark _)) (pss_one (ps_ret pe_bl)) pss_nil)
    (pss_cons (ps_for PassesOwn.never rfl (pi_range1 (by rfl) T.z_range (pa_cons (pe_call G__law_take (hr.mono (by first | decide | omega)) (by rfl) T.m__law_take T.k__law_take T.b__law_take .nil pass0 (pa_cons (pv 2) (pa_cons pe_int pa_nil))) pa_nil)) (pg_name (i := 7) nd rfl (Or.inl rfl))
    (pss_cons (ps_set (i := 8) nd rfl (Or.inl rfl) (pe_lst (pa_cons (pe_call G__law_any (hr.mono (by first | decide | omega)) (by rfl) T.m__law_any T.k__law_any T.b__law_any .nil pass0 (pa_cons (pv 2) (pa_cons pe_int pa_nil))) (pa_cons pe_str (pa_cons pe_str (pa_cons pe_str (pa_cons pe_non (pa_cons pe_str (pa_cons pe_int (pa_cons (pv 5) (pa_cons (pe_lst (pa_cons pe_str pa_nil)) (pa_cons pe_str (pa_cons pe_str pa_nil)))))))))))))
    (pss_one (ps_asg (pe_call G__law_pick (hr.mono (by first | decide | omega)) (by rfl) T.m__law_pick T.k__law_pick T.b__law_pick .nil pass0 (pa_cons (pv 2) (pa_cons (pv 8) pa_nil))) (pg_sub (pv 6) (pe_call G__law_take (hr.mono (by first | decide | omega)) (by rfl) T.m__law_take T.k__law_take T.b__law_take .nil pass0 (pa_cons (pv 2) (pa_cons pe_int pa_nil))) set_list)))))
    (pss_cons (ps_set (i := 9) nd rfl (Or.inl rfl) (pe_call G__law_lane_due (hr.mono (by first | decide | omega)) (by rfl) T.m__law_lane_due T.k__law_lane_due T.b__law_lane_due .nil pass0 (pa_cons (pv 6) pa_nil)))
    (pss_cons (ps_set (i := 10) nd rfl (Or.inl rfl) (pe_ifExp (pt_cmpR op_isN (pv 9) pe_non (nomark _)) pe_non (pe_tup (pa_cons pe_str (pa_cons (pv 9) (pa_cons pe_bl pa_nil))))))
    (pss_cons (ps_if (pt_cmpR (op_neD hr.units) (refused_here T hTB hcode rfl (hr.mono (by decide)) (LamX.lamS_by (by rfl)) rfl (fun _ _ _ _ _ => rfl) (t := tLaneB K T.c_Lane T.c_Form T.c_InvalidLane) (fun A outer s H E f c' hr2 => pe_makeS T.M_Lane GI_LaneA (hr2.mono (by decide)) rfl T.m_Lane T.b_Lane___init__ (takes_of rfl rfl rfl rfl) (pa_cons (pe_ix ix_seq (pe_var (i := 6) rfl (Or.inr (Or.inr rfl))) pe_int (fun _ _ => rfl)) (pa_cons (pe_ix ix_seq (pe_var (i := 6) rfl (Or.inr (Or.inr rfl))) pe_int (fun _ _ => rfl)) (pa_cons (pe_ix ix_seq (pe_var (i := 6) rfl (Or.inr (Or.inr rfl))) pe_int (fun _ _ => rfl)) (pa_cons (pe_ix ix_seq (pe_var (i := 6) rfl (Or.inr (Or.inr rfl))) pe_int (fun _ _ => rfl)) pa_nil)))))) (pv 10) (nomark _)) (pss_one (ps_ret pe_bl)) pss_nil)
    (pss_cons (ps_set (i := 11) nd rfl (Or.inl rfl) (pe_call G__law_pick (hr.mono (by first | decide | omega)) (by rfl) T.m__law_pick T.k__law_pick T.b__law_pick .nil pass0 (pa_cons (pv 2) (pa_cons (pe_lst (pa_cons (pe_fld (pv 5) rfl) (pa_cons (pe_fld (pv 5) rfl) (pa_cons pe_str (pa_cons pe_int (pa_cons pe_non (pa_cons (pe_call G__law_any (hr.mono (by first | decide | omega)) (by rfl) T.m__law_any T.k__law_any T.b__law_any .nil pass0 (pa_cons (pv 2) (pa_cons pe_int pa_nil))) pa_nil))))))) pa_nil))))
    (pss_cons (ps_set (i := 12) nd rfl (Or.inl rfl) (pe_lst (pa_cons (pe_lst (pa_cons (pv 5) pa_nil)) (pa_cons (pe_tup (pa_cons (pv 5) (pa_cons (pv 5) pa_nil))) (pa_cons (pe_lst pa_nil) (pa_cons (pe_tup pa_nil) (pa_cons (pe_lst (pa_cons (pv 5) (pa_cons pe_str pa_nil))) (pa_cons (pv 5) (pa_cons pe_non (pa_cons (pe_lst (pa_cons pe_non pa_nil)) (pa_cons (pe_call G__law_any (hr.mono (by first | decide | omega)) (by rfl) T.m__law_any T.k__law_any T.b__law_any .nil pass0 (pa_cons (pv 2) (pa_cons pe_int pa_nil))) pa_nil)))))))))))
    (pss_cons (ps_set (i := 13) nd rfl (Or.inr rfl) (pe_lst (pa_cons (pv 11) (pa_cons (pe_call G__law_pick (hr.mono (by first | decide | omega)) (by rfl) T.m__law_pick T.k__law_pick T.b__law_pick .nil pass0 (pa_cons (pv 2) (pa_cons (pe_op op_cat (pv 12) (pe_lst (pa_cons (pe_lst (pa_cons (pe_fld (pv 5) rfl) pa_nil)) pa_nil))) pa_nil))) pa_nil))))
    (pss_cons (ps_set (i := 9) nd rfl (Or.inl rfl) (pe_call G__law_block_due (hr.mono (by first | decide | omega)) (by rfl) T.m__law_block_due T.k__law_block_due T.b__law_block_due .nil pass0 (pa_cons (pv 13) pa_nil)))
    (pss_cons (ps_set (i := 10) nd rfl (Or.inl rfl) (pe_ifExp (pt_cmpR op_isN (pv 9) pe_non (nomark _)) pe_non (pe_tup (pa_cons pe_str (pa_cons (pv 9) (pa_cons pe_bl pa_nil))))))
    (pss_one (ps_if (pt_cmpR (op_neD hr.units) (refused_here T hTB hcode rfl (hr.mono (by decide)) (LamX.lamS_by (by rfl)) rfl (fun _ _ _ _ _ => rfl) (t := tBlockB K T.c_Block T.c_Form T.c_Lane T.c_InvalidBlock) (fun A outer s H E f c' hr2 => pe_makeS T.M_Block GI_BlockA (hr2.mono (by decide)) rfl T.m_Block T.b_Block___init__ (takes_of rfl rfl rfl rfl) (pa_cons (pe_ix ix_seq (pe_var (i := 13) rfl (Or.inr (Or.inr rfl))) pe_int (fun _ _ => rfl)) (pa_cons (pe_ix ix_seq (pe_var (i := 13) rfl (Or.inr (Or.inr rfl))) pe_int (fun _ _ => rfl)) pa_nil)))) (pv 10) (nomark _)) (pss_one (ps_ret pe_bl)) pss_nil)))))))))))))))))))
    (pss_one (ps_ret pe_bl))), ?_⟩
    clear G__law_take G__law_pick G__law_box G__law_lane G__law_lane_of G__law_lane_due G__law_block_due A2 A3 G__law_any GI_LaneA GI_BlockA
    refine ⟨_, rfl, _, _, rfl, .inl hS, _, _, rfl, _, _, rfl, _, rfl, ?_, ?_, ?_⟩
    · split <;> split <;> omega
    · split <;> split <;> omega
    refine for_range (fun i σ H2 => ∃ y1 y2 y3 y4 y5 y6 y7 y8 y9 y10 y11 y12 y13, σ = [some (.ref a), y1, y2, y3, y4, y5, y6, y7, y8, y9, y10, y11, y12, y13] ∧ SqL K H2 a (ns.map V.int) ∧ LamX.Tabs [(T.tp_law, lamQ "law")] H2)
      ⟨none, none, none, none, none, none, none, none, none, none, none, none, none, rfl, hS, tabs_of tb⟩ (fun i0 σ H2 hi hP => ?_) (fun σ H2 hP => ?_)
    rotate_left
    · obtain ⟨y1, y2, y3, y4, y5, y6, y7, y8, y9, y10, y11, y12, y13, rfl, _, _⟩ := hP
      exact k _
    obtain ⟨y1, y2, y3, y4, y5, y6, y7, y8, y9, y10, y11, y12, y13, rfl, sq2, tb2⟩ := hP
    have i4 : i0 < 1000 := by
      revert hi
      split <;> split <;> omega
    refine ⟨_, rfl, _, rfl, a, ns, _, rfl, sq2, by omega, by omega, fun H3 b s3 nb B3 => ?_⟩
    have K3 : Kept K [(T.tp_law, lamQ "law")] b a (ns.map V.int) H3 := ⟨B3, Scr.start sq2 nb s3, tb2.ext s3⟩
    dsimp only [gName]
    clear hi
    refine ⟨_, rfl, by decide, by decide, ?_⟩
    refine for_range (fun i σ Hy => ∃ y3 y4 y5 y6 y7 y8 y9 y10 y11 y12 y13, σ = [some (.ref a), some (.int (0 + (i0 : Int))), some (.ref b), y3, y4, y5, y6, y7, y8, y9, y10, y11, y12, y13] ∧ Kept K [(T.tp_law, lamQ "law")] b a (ns.map V.int) Hy)
      ⟨y3, y4, y5, y6, y7, y8, y9, y10, y11, y12, y13, rfl, K3⟩ (fun i σ Hy hi hP => ?_) (fun σ Hy hP => ?_)
    rotate_left
    · obtain ⟨y3, y4, y5, y6, y7, y8, y9, y10, y11, y12, y13, rfl, Ky⟩ := hP
      exact ⟨_, _, _, _, _, _, _, _, _, _, _, _, _, rfl, Ky.scr.sql, Ky.tb⟩
    obtain ⟨y3, y4, y5, y6, y7, y8, y9, y10, y11, y12, y13, rfl, Ky⟩ := hP
    dsimp only [gName]
    refine asg_go ?_
    refine ⟨_, rfl, b, 3, rfl, Ky.box, by decide, by decide, fun v H4 lv B4 k4 => ?_⟩
    have K4 := Ky.but B4 k4
    dsimp only [gName]
    refine asg_go ?_
    refine ⟨_, rfl, v, rfl, lv, fun x dx y z d f H5 hx hy hz hd hf s5 => ?_⟩
    have K5 := K4.same s5
    dsimp only [gName]
    refine asg_go ?_
    refine ⟨_, rfl, x, _, dx, _, _, rfl, hx, T.C_Lane, T.n_Lane_way, rfl, ?_⟩
    refine ⟨_, rfl, x, _, dx, _, _, rfl, hx, T.C_Lane, T.n_Lane_sign, rfl, ?_⟩
    refine ⟨_, rfl, x, _, dx, _, _, rfl, hx, T.C_Lane, T.n_Lane_shift, rfl, ?_⟩
    refine ⟨_, rfl, x, _, dx, _, _, rfl, hx, T.C_Lane, T.n_Lane_deed, rfl, ?_⟩
    refine ⟨szL (Nat.le_of_ble_eq_true rfl), fun L nL => ?_⟩
    have s6 := same_new (H := H5) (o := .lst [.str y, .str z, f, .str d]) nL
    have hL6 : upd H5 L (.lst [.str y, .str z, f, .str d]) L = some (.lst [.str y, .str z, f, .str d]) := upd_same
    have K6 := K5.same s6
    have neL := K5.box.ne_none nL
    have sepL := K5.scr.sep nL
    have hx6 := s6 _ _ hx
    have hf6 := hf.fz (Fz.of_same s6)
    dsimp only [gName]
    show tSeq (tIfS _ _ _) _ _ _ (upd H5 L (.lst [.str y, .str z, f, .str d]))
    generalize upd H5 L (.lst [.str y, .str z, f, .str d]) = H6 at hL6 K6 hx6 hf6 ⊢
    clear s6 hx hf K5 s5 K4 k4 B4 lv K3 B3 s3
    refine seqif_go (tst_go ?_)
    refine lane_wish (b := b) (f := true) K6.tb rfl hL6 (.inl trivial) (.inl trivial) ?_ (.inl trivial) (fun _ H7 x7 t7 => ?_) (fun wd hw => ?_)
    · obtain ⟨xf, df, fs, rfl, hxf⟩ := hf6
      exact ⟨_, T.I_Form.ty T.C_Form hxf, kit_self⟩
    rotate_left
    · rw [laneDue_ok hy hz hd] at hw
      cases hw
    refine ⟨rfl, _, rfl, ifF (by simp) ?_⟩
    have K7 := K6.ext x7 t7
    have hx7 := x7 _ _ hx6 fun _ q => by cases q
    have hL7 := x7 _ _ hL6 fun _ q => by cases q
    have hf7 : InsOf T.c_Form H7 f := by
      obtain ⟨xf, df, fs, rfl, hxf⟩ := hf6
      exact ⟨xf, df, fs, rfl, x7 _ _ hxf fun _ q => by cases q⟩
    have G7 : Good T.c_Lane T.c_Form x dx y z f d H7 := ⟨hx7, hf7⟩
    have T7 : Told K [(T.tp_law, lamQ "law")] T.c_Lane T.c_Form b a L (ns.map V.int) H7 (.str y) (.str z) f (.str d) true := ⟨K7, hL7, .inl trivial, .inl trivial, G7.isF T, .inl trivial⟩
    clear hx6 hL6 hf6 K6 x7 t7 hx7 hL7 hf7 K7
    dsimp only [tNext]
    refine ⟨_, rfl, b, 3, rfl, T7.kept.box, by decide, by decide, fun r H8 r0 r1 B8 k8 => ⟨r, rfl, by omega, by omega, ?_⟩⟩
    have T8 := T7.but neL B8 k8
    have G8 := G7.but T7.kept.box k8
    clear T7 G7 B8 k8
    refine for_range (fun n σ Hz => ∃ y7 y8 v0 v1 v2 v3 fl, σ = [some (.ref a), some (.int (0 + (i0 : Int))), some (.ref b), some (.int (0 + (i : Int))), some v, some (.ref x), some (.ref L), y7, y8, y9, y10, y11, y12, y13] ∧ Told K [(T.tp_law, lamQ "law")] T.c_Lane T.c_Form b a L (ns.map V.int) Hz v0 v1 v2 v3 fl ∧ Good T.c_Lane T.c_Form x dx y z f d Hz)
      ⟨y7, y8, _, _, _, _, _, rfl, T8, G8⟩ (fun n σ Hz hn hP => ?_) (fun σ Hz hP => ?_)
    · clear T8 G8
      obtain ⟨y7, y8, v0, v1, v2, v3, fl, rfl, Tz, Gz⟩ := hP
      dsimp only [gName]
      refine asg_go (ev_odd T rfl rfl Tz.kept.box Gz _ (fun vO H9 hO => ?_))
      obtain ⟨O, odd, rfl, hO, neO, lo, wv, B9, k9⟩ := hO
      have T9 := Tz.but neL B9 k9
      have G9 := Gz.but Tz.kept.box k9
      dsimp only [gName]
      refine ⟨_, rfl, _, rfl, b, O, odd, rfl, B9, neO, hO, by omega, by omega, fun u H11 hu B11 k11 => ?_⟩
      refine ⟨_, rfl, _, rfl, b, 4, rfl, B11, by decide, by decide, fun r2 H12 r20 r21 B12 k12 => ?_⟩
      have T12 := (T9.but neL B11 k11).but neL B12 k12
      have G12 := (G9.but B9 k11).but B11 k12
      have hw := ((wv u hu).but B9 k11).but B11 k12
      obtain ⟨j, ej, w0, w1, w2, w3, gl, Tn⟩ := T12.put T.I_Form T.I_Lane T.C_Lane T.kit_Lane_Form neL sepL hw r20 r21
      refine ⟨L, _, r2, j, rfl, rfl, T12.told, ej, ?_⟩
      exact ⟨_, _, w0, w1, w2, w3, gl, rfl, Tn, G12.set T12.told⟩
    clear T8 G8
    obtain ⟨y7, y8, v0, v1, v2, v3, fl, rfl, Tz, Gz⟩ := hP
    dsimp only
    refine asg_go ?_
    refine ⟨_, rfl, L, b, v0, v1, v2, v3, fl, rfl, Tz.told, Tz.w0, Tz.w1, Tz.c2, Tz.w3, fun H9 s9 => ?_⟩
    have T9 := Tz.same s9
    have G9 := Gz.same s9
    clear Tz Gz s9
    dsimp only [gName]
    refine asg_go (ev_due (i := 9) (s := Str.ofString "lane") (o := laneDue v0 v1 fl v3) rfl _ (fun vd H10 hd => ?_))
    obtain ⟨hd, s10⟩ := hd
    have T10 := T9.same s10
    have G10 := G9.same s10
    clear T9 G9 s10
    dsimp only [gName]
    refine seqif_go (tst_go ?_)
    refine ev_ltest T10 rfl rfl hd _ (fun vt H11 ht => ?_)
    obtain ⟨rfl, x11, t11⟩ := ht
    have G11 := G10.ext x11
    have K11 := T10.kept.ext x11 t11
    clear T10 G10 x11 t11 hd
    refine ⟨_, rfl, ifF rfl ?_⟩
    dsimp only [tNext]
    refine asg_go (ev_rounds T rfl rfl K11.box G11 _ (fun vr H12 hq => ?_))
    obtain ⟨r2, cr, B12, k12⟩ := hq
    have K12 := K11.but B12 k12
    have G12 := G11.but K11.box k12
    clear K11 G11 k12
    dsimp only [gName]
    refine asg_go (ev_lanes T rfl rfl B12 G12 _ (fun vl H13 hq => ?_))
    obtain ⟨LL, us, rfl, hLL, neLL, lu, hus, B13, k13⟩ := hq
    have cr13 := cr.but k13 B12 B13
    have K13 := K12.but B13 k13
    have G13 := G12.but B12 k13
    clear K12 G12 k13 cr B12
    dsimp only [gName]
    refine asg_go (ev_both T rfl rfl rfl rfl B13 G13 cr13 hLL neLL lu hus _ (fun vb H14 hq => ?_))
    obtain ⟨BB, u, l, rfl, hBB, cr14, su, B14, k14⟩ := hq
    have K14 := K13.but B14 k14
    clear K13 G13 k14 cr13 B13 hus hLL
    dsimp only [gName]
    refine asg_go ?_
    refine ⟨_, rfl, BB, vr, u, r2, l, rfl, hBB, cr14, su, fun H15 s15 => ?_⟩
    have K15 := K14.same s15
    have hB15 := s15 _ _ hBB
    have cr15 := cr14.same s15
    have su15 := su.same s15
    dsimp only [gName]
    refine asg_go (ev_due (i := 9) (s := Str.ofString "block") (o := blockDue r2 l) rfl _ (fun vd2 H16 hd => ?_))
    obtain ⟨hd, s16⟩ := hd
    dsimp only [gName]
    refine ifs_go (tst_go ?_)
    refine ev_btest (K15.same s16).tb (s16 _ _ hB15) (cr15.same s16) (su15.same s16) rfl rfl hd _ (fun vt H17 ht => ?_)
    obtain ⟨rfl, x17, t17⟩ := ht
    refine ⟨_, rfl, ifF rfl ?_⟩
    dsimp only [tNext]
    exact ⟨_, _, _, _, _, _, _, _, _, _, _, rfl, (K15.same s16).ext x17 t17⟩

end
theorem all_mk {l : PySem.W.OpenLaw} {w : World} {K : PySem.W.Frag} {h : Heap} {mg : Str → Option Value} {fa : Addr} (X : K.In h) (G : h.Ns mainGlobals mg) (hfa : mg "law" = some (.ref fa)) (TA : TabsTop K ["law"] h)
    {C_RingError : Addr} (aC_RingError : PySem.W.nsIn K mainGlobals "RingError" = some (some (.ref C_RingError)))
    {C_InvalidForm : Addr} (aC_InvalidForm : PySem.W.nsIn K mainGlobals "InvalidForm" = some (some (.ref C_InvalidForm)))
    {nm_InvalidForm q_InvalidForm : Str} {N_InvalidForm : Addr} {bs_InvalidForm : List Value} {sn_InvalidForm : List Str} {sub_InvalidForm : List Value} {ab_InvalidForm : Bool} {col_InvalidForm : Option Bool} {dd_InvalidForm : Option Addr} {m0_InvalidForm m1_InvalidForm m2_InvalidForm m3_InvalidForm m5_InvalidForm : Option Value}
    (xL_InvalidForm : K.lookup C_InvalidForm = some (excClassObj nm_InvalidForm q_InvalidForm C_InvalidForm N_InvalidForm bs_InvalidForm [.ref C_RingError, .type "ValueError", .type "Exception", .type "BaseException", .type "object"] true sn_InvalidForm sub_InvalidForm ab_InvalidForm col_InvalidForm dd_InvalidForm m0_InvalidForm m1_InvalidForm m2_InvalidForm m3_InvalidForm m5_InvalidForm "ValueError.__new__"))
    (sa_InvalidForm : PySem.W.findIn K (.ref C_InvalidForm) "__setattr__" = some (some (.builtin "object.__setattr__")))
    (ga_InvalidForm : PySem.W.findIn K (.ref C_InvalidForm) "__getattribute__" = some (some (.builtin "BaseException.__getattribute__")))
    (gg_InvalidForm : PySem.W.findIn K (.ref C_InvalidForm) "__getattr__" = some none)
    (nw_InvalidForm : PySem.W.findIn K (.ref C_InvalidForm) "word" = some none)
    (ca_InvalidForm : PySem.W.findIn K (.ref C_InvalidForm) "__class__" = some (some (.builtin "object.__class__")))
    (kC_InvalidForm : PySem.W.keepIn K (.ref C_InvalidForm) = true)
    (eC_InvalidForm : PySem.W.subIn K (.ref C_InvalidForm) (.type "BaseException") = some true)
    (tC_InvalidForm : PySem.W.typeIn K (.ref C_InvalidForm) = some (.type "type"))
    (hC_InvalidForm : PySem.W.hasDictIn K C_InvalidForm = true)
    (sC_InvalidForm : PySem.W.subIn K (.ref C_InvalidForm) (.ref C_InvalidForm) = some true)
    (mo_InvalidForm : PySem.W.mroIn K C_InvalidForm (.type "object") = some true)
    (cl_InvalidForm : (PySem.W.clsIn K C_InvalidForm).isSome = true)
    {f0 : Addr} {od0 an0 : Option Addr} {sl0 : Array (Option Value)} {oc0 kV0 dc0 pm0 cd0 ct0 : Value}
    (l0 : K.lookup f0 = some ⟨oc0, od0, .func (PySem.W.fnOf "__init__" "InvalidForm.__init__" (defArgs s_InvalidForm___init__) (defBody s_InvalidForm___init__) (defScope s_InvalidForm___init__) .none kV0 dc0 pm0 an0 cd0 ct0), sl0⟩) (c0 : PySem.W.codeIn K cd0 "InvalidForm.__init__" = true) (k0 : PySem.W.keepIn K (.ref f0) = true)
    (iC_InvalidForm : PySem.W.findIn K (.ref C_InvalidForm) "__init__" = some (some (.ref f0))) (iT_InvalidForm : PySem.W.typeIn K (.ref f0) = some (.type "function"))
    {C_InvalidLane : Addr} (aC_InvalidLane : PySem.W.nsIn K mainGlobals "InvalidLane" = some (some (.ref C_InvalidLane)))
    {nm_InvalidLane q_InvalidLane : Str} {N_InvalidLane : Addr} {bs_InvalidLane : List Value} {sn_InvalidLane : List Str} {sub_InvalidLane : List Value} {ab_InvalidLane : Bool} {col_InvalidLane : Option Bool} {dd_InvalidLane : Option Addr} {m0_InvalidLane m1_InvalidLane m2_InvalidLane m3_InvalidLane m5_InvalidLane : Option Value}
    (xL_InvalidLane : K.lookup C_InvalidLane = some (excClassObj nm_InvalidLane q_InvalidLane C_InvalidLane N_InvalidLane bs_InvalidLane [.ref C_RingError, .type "ValueError", .type "Exception", .type "BaseException", .type "object"] true sn_InvalidLane sub_InvalidLane ab_InvalidLane col_InvalidLane dd_InvalidLane m0_InvalidLane m1_InvalidLane m2_InvalidLane m3_InvalidLane m5_InvalidLane "ValueError.__new__"))
    (sa_InvalidLane : PySem.W.findIn K (.ref C_InvalidLane) "__setattr__" = some (some (.builtin "object.__setattr__")))
    (ga_InvalidLane : PySem.W.findIn K (.ref C_InvalidLane) "__getattribute__" = some (some (.builtin "BaseException.__getattribute__")))
    (gg_InvalidLane : PySem.W.findIn K (.ref C_InvalidLane) "__getattr__" = some none)
    (nw_InvalidLane : PySem.W.findIn K (.ref C_InvalidLane) "word" = some none)
    (ca_InvalidLane : PySem.W.findIn K (.ref C_InvalidLane) "__class__" = some (some (.builtin "object.__class__")))
    (kC_InvalidLane : PySem.W.keepIn K (.ref C_InvalidLane) = true)
    (eC_InvalidLane : PySem.W.subIn K (.ref C_InvalidLane) (.type "BaseException") = some true)
    (tC_InvalidLane : PySem.W.typeIn K (.ref C_InvalidLane) = some (.type "type"))
    (hC_InvalidLane : PySem.W.hasDictIn K C_InvalidLane = true)
    (sC_InvalidLane : PySem.W.subIn K (.ref C_InvalidLane) (.ref C_InvalidLane) = some true)
    (mo_InvalidLane : PySem.W.mroIn K C_InvalidLane (.type "object") = some true)
    (cl_InvalidLane : (PySem.W.clsIn K C_InvalidLane).isSome = true)
    {f1 : Addr} {od1 an1 : Option Addr} {sl1 : Array (Option Value)} {oc1 kV1 dc1 pm1 cd1 ct1 : Value}
    (l1 : K.lookup f1 = some ⟨oc1, od1, .func (PySem.W.fnOf "__init__" "InvalidLane.__init__" (defArgs s_InvalidLane___init__) (defBody s_InvalidLane___init__) (defScope s_InvalidLane___init__) .none kV1 dc1 pm1 an1 cd1 ct1), sl1⟩) (c1 : PySem.W.codeIn K cd1 "InvalidLane.__init__" = true) (k1 : PySem.W.keepIn K (.ref f1) = true)
    (iC_InvalidLane : PySem.W.findIn K (.ref C_InvalidLane) "__init__" = some (some (.ref f1))) (iT_InvalidLane : PySem.W.typeIn K (.ref f1) = some (.type "function"))
    {C_InvalidBlock : Addr} (aC_InvalidBlock : PySem.W.nsIn K mainGlobals "InvalidBlock" = some (some (.ref C_InvalidBlock)))
    {nm_InvalidBlock q_InvalidBlock : Str} {N_InvalidBlock : Addr} {bs_InvalidBlock : List Value} {sn_InvalidBlock : List Str} {sub_InvalidBlock : List Value} {ab_InvalidBlock : Bool} {col_InvalidBlock : Option Bool} {dd_InvalidBlock : Option Addr} {m0_InvalidBlock m1_InvalidBlock m2_InvalidBlock m3_InvalidBlock m5_InvalidBlock : Option Value}
    (xL_InvalidBlock : K.lookup C_InvalidBlock = some (excClassObj nm_InvalidBlock q_InvalidBlock C_InvalidBlock N_InvalidBlock bs_InvalidBlock [.ref C_RingError, .type "ValueError", .type "Exception", .type "BaseException", .type "object"] true sn_InvalidBlock sub_InvalidBlock ab_InvalidBlock col_InvalidBlock dd_InvalidBlock m0_InvalidBlock m1_InvalidBlock m2_InvalidBlock m3_InvalidBlock m5_InvalidBlock "ValueError.__new__"))
    (sa_InvalidBlock : PySem.W.findIn K (.ref C_InvalidBlock) "__setattr__" = some (some (.builtin "object.__setattr__")))
    (ga_InvalidBlock : PySem.W.findIn K (.ref C_InvalidBlock) "__getattribute__" = some (some (.builtin "BaseException.__getattribute__")))
    (gg_InvalidBlock : PySem.W.findIn K (.ref C_InvalidBlock) "__getattr__" = some none)
    (nw_InvalidBlock : PySem.W.findIn K (.ref C_InvalidBlock) "word" = some none)
    (ca_InvalidBlock : PySem.W.findIn K (.ref C_InvalidBlock) "__class__" = some (some (.builtin "object.__class__")))
    (kC_InvalidBlock : PySem.W.keepIn K (.ref C_InvalidBlock) = true)
    (eC_InvalidBlock : PySem.W.subIn K (.ref C_InvalidBlock) (.type "BaseException") = some true)
    (tC_InvalidBlock : PySem.W.typeIn K (.ref C_InvalidBlock) = some (.type "type"))
    (hC_InvalidBlock : PySem.W.hasDictIn K C_InvalidBlock = true)
    (sC_InvalidBlock : PySem.W.subIn K (.ref C_InvalidBlock) (.ref C_InvalidBlock) = some true)
    (mo_InvalidBlock : PySem.W.mroIn K C_InvalidBlock (.type "object") = some true)
    (cl_InvalidBlock : (PySem.W.clsIn K C_InvalidBlock).isSome = true)
    {f2 : Addr} {od2 an2 : Option Addr} {sl2 : Array (Option Value)} {oc2 kV2 dc2 pm2 cd2 ct2 : Value}
    (l2 : K.lookup f2 = some ⟨oc2, od2, .func (PySem.W.fnOf "__init__" "InvalidBlock.__init__" (defArgs s_InvalidBlock___init__) (defBody s_InvalidBlock___init__) (defScope s_InvalidBlock___init__) .none kV2 dc2 pm2 an2 cd2 ct2), sl2⟩) (c2 : PySem.W.codeIn K cd2 "InvalidBlock.__init__" = true) (k2 : PySem.W.keepIn K (.ref f2) = true)
    (iC_InvalidBlock : PySem.W.findIn K (.ref C_InvalidBlock) "__init__" = some (some (.ref f2))) (iT_InvalidBlock : PySem.W.typeIn K (.ref f2) = some (.type "function"))
    {C_Form : Addr} (aC_Form : PySem.W.nsIn K mainGlobals "Form" = some (some (.ref C_Form)))
    (pg_Form : PySem.W.plainGet K C_Form Str.empty = true)
    (hd_Form : PySem.W.hasDictIn K C_Form = true)
    (po_Form : PySem.W.plainOver K C_Form = true)
    (sa_Form : PySem.W.findIn K (.ref C_Form) "__setattr__" = some (some (.builtin "object.__setattr__")))
    (mk_Form : PySem.W.makesIn K C_Form = true)
    (kc_Form : PySem.W.keepIn K (.ref C_Form) = true)
    (n_times_Form : PySem.W.findIn K (.ref C_Form) "times" = some none)
    (n_plus_Form : PySem.W.findIn K (.ref C_Form) "plus" = some none)
    (n_by_Form : PySem.W.findIn K (.ref C_Form) "by" = some none)
    (cl_Form : (PySem.W.clsIn K C_Form).isSome = true)
    (tC_Form : PySem.W.typeIn K (.ref C_Form) = some (.type "type"))
    (ca_Form : PySem.W.findIn K (.ref C_Form) "__class__" = some (some (.builtin "object.__class__")))
    (mo_Form : PySem.W.mroIn K C_Form (.type "object") = some true)
    (nE_Form : PySem.W.findIn K (.ref C_Form) "__ne__" = some (some (.builtin "object.__ne__")))
    (mo_N_Form : PySem.W.mroIn K C_Form (.type "NoneType") = some false)
    (mo_S_Form : PySem.W.mroIn K C_Form (.type "str") = some false)
    (mo_T_Form : PySem.W.mroIn K C_Form (.type "tuple") = some false)
    (mo_L_Form : PySem.W.mroIn K C_Form (.type "list") = some false)
    (mo_I_Form : PySem.W.mroIn K C_Form (.type "int") = some false)
    {f3 : Addr} {od3 an3 : Option Addr} {sl3 : Array (Option Value)} {oc3 kV3 dc3 pm3 cd3 ct3 : Value}
    {T3 : Addr} {dd3 : Option Addr} {dn3 : Nat} {dsl3 : Array (Option Value)} {t3_0 : Tok} {t3_1 : Tok} {t3_2 : Tok}
    (t3 : K.lookup T3 = some ⟨.type "tuple", dd3, .seq [Value.int 0 t3_0, Value.int 0 t3_1, Value.int 1 t3_2].toArray dn3, dsl3⟩)
    (l3 : K.lookup f3 = some ⟨oc3, od3, .func (PySem.W.fnOf "__init__" "Form.__init__" (defArgs s_Form___init__) (defBody s_Form___init__) (defScope s_Form___init__) (.ref T3) kV3 dc3 pm3 an3 cd3 ct3), sl3⟩) (c3 : PySem.W.codeIn K cd3 "Form.__init__" = true) (k3 : PySem.W.keepIn K (.ref f3) = true)
    (a3 : PySem.W.findIn K (.ref C_Form) "__init__" = some (some (.ref f3))) (i3 : PySem.W.isFn K (.ref f3) = true)
    {f4 : Addr} {od4 an4 : Option Addr} {sl4 : Array (Option Value)} {oc4 kV4 dc4 pm4 cd4 ct4 : Value}
    (l4 : K.lookup f4 = some ⟨oc4, od4, .func (PySem.W.fnOf "__eq__" "Form.__eq__" (defArgs s_Form___eq__) (defBody s_Form___eq__) (defScope s_Form___eq__) .none kV4 dc4 pm4 an4 cd4 ct4), sl4⟩) (c4 : PySem.W.codeIn K cd4 "Form.__eq__" = true) (k4 : PySem.W.keepIn K (.ref f4) = true)
    (a4 : PySem.W.findIn K (.ref C_Form) "__eq__" = some (some (.ref f4))) (i4 : PySem.W.isFn K (.ref f4) = true)
    {C_Lane : Addr} (aC_Lane : PySem.W.nsIn K mainGlobals "Lane" = some (some (.ref C_Lane)))
    (pg_Lane : PySem.W.plainGet K C_Lane Str.empty = true)
    (hd_Lane : PySem.W.hasDictIn K C_Lane = true)
    (po_Lane : PySem.W.plainOver K C_Lane = true)
    (sa_Lane : PySem.W.findIn K (.ref C_Lane) "__setattr__" = some (some (.builtin "object.__setattr__")))
    (mk_Lane : PySem.W.makesIn K C_Lane = true)
    (kc_Lane : PySem.W.keepIn K (.ref C_Lane) = true)
    (n_way_Lane : PySem.W.findIn K (.ref C_Lane) "way" = some none)
    (n_sign_Lane : PySem.W.findIn K (.ref C_Lane) "sign" = some none)
    (n_shift_Lane : PySem.W.findIn K (.ref C_Lane) "shift" = some none)
    (n_deed_Lane : PySem.W.findIn K (.ref C_Lane) "deed" = some none)
    (cl_Lane : (PySem.W.clsIn K C_Lane).isSome = true)
    (tC_Lane : PySem.W.typeIn K (.ref C_Lane) = some (.type "type"))
    (ca_Lane : PySem.W.findIn K (.ref C_Lane) "__class__" = some (some (.builtin "object.__class__")))
    (mo_Lane : PySem.W.mroIn K C_Lane (.type "object") = some true)
    (nE_Lane : PySem.W.findIn K (.ref C_Lane) "__ne__" = some (some (.builtin "object.__ne__")))
    (mo_N_Lane : PySem.W.mroIn K C_Lane (.type "NoneType") = some false)
    (mo_S_Lane : PySem.W.mroIn K C_Lane (.type "str") = some false)
    (mo_T_Lane : PySem.W.mroIn K C_Lane (.type "tuple") = some false)
    (mo_L_Lane : PySem.W.mroIn K C_Lane (.type "list") = some false)
    (mo_I_Lane : PySem.W.mroIn K C_Lane (.type "int") = some false)
    {f5 : Addr} {od5 an5 : Option Addr} {sl5 : Array (Option Value)} {oc5 kV5 dc5 pm5 cd5 ct5 : Value}
    (l5 : K.lookup f5 = some ⟨oc5, od5, .func (PySem.W.fnOf "__init__" "Lane.__init__" (defArgs s_Lane___init__) (defBody s_Lane___init__) (defScope s_Lane___init__) .none kV5 dc5 pm5 an5 cd5 ct5), sl5⟩) (c5 : PySem.W.codeIn K cd5 "Lane.__init__" = true) (k5 : PySem.W.keepIn K (.ref f5) = true)
    (a5 : PySem.W.findIn K (.ref C_Lane) "__init__" = some (some (.ref f5))) (i5 : PySem.W.isFn K (.ref f5) = true)
    {f6 : Addr} {od6 an6 : Option Addr} {sl6 : Array (Option Value)} {oc6 kV6 dc6 pm6 cd6 ct6 : Value}
    (l6 : K.lookup f6 = some ⟨oc6, od6, .func (PySem.W.fnOf "__eq__" "Lane.__eq__" (defArgs s_Lane___eq__) (defBody s_Lane___eq__) (defScope s_Lane___eq__) .none kV6 dc6 pm6 an6 cd6 ct6), sl6⟩) (c6 : PySem.W.codeIn K cd6 "Lane.__eq__" = true) (k6 : PySem.W.keepIn K (.ref f6) = true)
    (a6 : PySem.W.findIn K (.ref C_Lane) "__eq__" = some (some (.ref f6))) (i6 : PySem.W.isFn K (.ref f6) = true)
    {C_Block : Addr} (aC_Block : PySem.W.nsIn K mainGlobals "Block" = some (some (.ref C_Block)))
    (pg_Block : PySem.W.plainGet K C_Block Str.empty = true)
    (hd_Block : PySem.W.hasDictIn K C_Block = true)
    (po_Block : PySem.W.plainOver K C_Block = true)
    (sa_Block : PySem.W.findIn K (.ref C_Block) "__setattr__" = some (some (.builtin "object.__setattr__")))
    (mk_Block : PySem.W.makesIn K C_Block = true)
    (kc_Block : PySem.W.keepIn K (.ref C_Block) = true)
    (n_rounds_Block : PySem.W.findIn K (.ref C_Block) "rounds" = some none)
    (n_lanes_Block : PySem.W.findIn K (.ref C_Block) "lanes" = some none)
    (cl_Block : (PySem.W.clsIn K C_Block).isSome = true)
    (tC_Block : PySem.W.typeIn K (.ref C_Block) = some (.type "type"))
    (ca_Block : PySem.W.findIn K (.ref C_Block) "__class__" = some (some (.builtin "object.__class__")))
    (mo_Block : PySem.W.mroIn K C_Block (.type "object") = some true)
    (nE_Block : PySem.W.findIn K (.ref C_Block) "__ne__" = some (some (.builtin "object.__ne__")))
    (mo_N_Block : PySem.W.mroIn K C_Block (.type "NoneType") = some false)
    (mo_S_Block : PySem.W.mroIn K C_Block (.type "str") = some false)
    (mo_T_Block : PySem.W.mroIn K C_Block (.type "tuple") = some false)
    (mo_L_Block : PySem.W.mroIn K C_Block (.type "list") = some false)
    (mo_I_Block : PySem.W.mroIn K C_Block (.type "int") = some false)
    {f7 : Addr} {od7 an7 : Option Addr} {sl7 : Array (Option Value)} {oc7 kV7 dc7 pm7 cd7 ct7 : Value}
    (l7 : K.lookup f7 = some ⟨oc7, od7, .func (PySem.W.fnOf "__init__" "Block.__init__" (defArgs s_Block___init__) (defBody s_Block___init__) (defScope s_Block___init__) .none kV7 dc7 pm7 an7 cd7 ct7), sl7⟩) (c7 : PySem.W.codeIn K cd7 "Block.__init__" = true) (k7 : PySem.W.keepIn K (.ref f7) = true)
    (a7 : PySem.W.findIn K (.ref C_Block) "__init__" = some (some (.ref f7))) (i7 : PySem.W.isFn K (.ref f7) = true)
    {f8 : Addr} {od8 an8 : Option Addr} {sl8 : Array (Option Value)} {oc8 kV8 dc8 pm8 cd8 ct8 : Value}
    (l8 : K.lookup f8 = some ⟨oc8, od8, .func (PySem.W.fnOf "__eq__" "Block.__eq__" (defArgs s_Block___eq__) (defBody s_Block___eq__) (defScope s_Block___eq__) .none kV8 dc8 pm8 an8 cd8 ct8), sl8⟩) (c8 : PySem.W.codeIn K cd8 "Block.__eq__" = true) (k8 : PySem.W.keepIn K (.ref f8) = true)
    (a8 : PySem.W.findIn K (.ref C_Block) "__eq__" = some (some (.ref f8))) (i8 : PySem.W.isFn K (.ref f8) = true)
    (spec : PySem.W.specialIn K (.builtin "object.__class__") "__get__" = some (some (.builtin "getset_descriptor.__get__"))) (takes : PySem.W.takesIn K (.builtin "object.__class__") = some true)
    (kit_InvalidLane_RingError : PySem.W.kitOne K (.ref C_InvalidLane) (.ref C_RingError) = some true)
    (kit_InvalidLane_InvalidBlock : PySem.W.kitOne K (.ref C_InvalidLane) (.ref C_InvalidBlock) = some false)
    (kit_InvalidLane_InvalidForm : PySem.W.kitOne K (.ref C_InvalidLane) (.ref C_InvalidForm) = some false)
    (kit_InvalidBlock_RingError : PySem.W.kitOne K (.ref C_InvalidBlock) (.ref C_RingError) = some true)
    (kit_InvalidBlock_InvalidForm : PySem.W.kitOne K (.ref C_InvalidBlock) (.ref C_InvalidForm) = some false)
    (kit_InvalidBlock_InvalidLane : PySem.W.kitOne K (.ref C_InvalidBlock) (.ref C_InvalidLane) = some false)
    (kit_Lane_Form : PySem.W.kitOne K (.ref C_Lane) (.ref C_Form) = some false)
    (kit_Form_Lane : PySem.W.kitOne K (.ref C_Form) (.ref C_Lane) = some false)
    {A_WAYS : Addr} {dd_WAYS : Option Addr} {n_WAYS : Nat} {sl_WAYS : Array (Option Value)} {t_WAYS0 : Tok} {t_WAYS1 : Tok}
    (a_WAYS : PySem.W.nsIn K mainGlobals "WAYS" = some (some (.ref A_WAYS))) (l_WAYS : K.lookup A_WAYS = some ⟨.type "tuple", dd_WAYS, .seq [Value.str "up" t_WAYS0, Value.str "down" t_WAYS1].toArray n_WAYS, sl_WAYS⟩)
    {A_SIGNS : Addr} {dd_SIGNS : Option Addr} {n_SIGNS : Nat} {sl_SIGNS : Array (Option Value)} {t_SIGNS0 : Tok} {t_SIGNS1 : Tok}
    (a_SIGNS : PySem.W.nsIn K mainGlobals "SIGNS" = some (some (.ref A_SIGNS))) (l_SIGNS : K.lookup A_SIGNS = some ⟨.type "tuple", dd_SIGNS, .seq [Value.str "+" t_SIGNS0, Value.str "-" t_SIGNS1].toArray n_SIGNS, sl_SIGNS⟩)
    {A_DEEDS : Addr} {dd_DEEDS : Option Addr} {n_DEEDS : Nat} {sl_DEEDS : Array (Option Value)} {t_DEEDS0 : Tok} {t_DEEDS1 : Tok}
    (a_DEEDS : PySem.W.nsIn K mainGlobals "DEEDS" = some (some (.ref A_DEEDS))) (l_DEEDS : K.lookup A_DEEDS = some ⟨.type "tuple", dd_DEEDS, .seq [Value.str "add" t_DEEDS0, Value.str "put" t_DEEDS1].toArray n_DEEDS, sl_DEEDS⟩)
    {f9 : Addr} {od9 an9 : Option Addr} {sl9 : Array (Option Value)} {oc9 kV9 dc9 pm9 cd9 ct9 : Value}
    (l9 : K.lookup f9 = some ⟨oc9, od9, .func (PySem.W.fnOf "is_whole" "is_whole" (defArgs s_is_whole) (defBody s_is_whole) (defScope s_is_whole) .none kV9 dc9 pm9 an9 cd9 ct9), sl9⟩) (c9 : PySem.W.codeIn K cd9 "is_whole" = true) (k9 : PySem.W.keepIn K (.ref f9) = true)
    (a9 : PySem.W.nsIn K mainGlobals "is_whole" = some (some (.ref f9)))
    {f10 : Addr} {od10 an10 : Option Addr} {sl10 : Array (Option Value)} {oc10 kV10 dc10 pm10 cd10 ct10 : Value}
    (l10 : K.lookup f10 = some ⟨oc10, od10, .func (PySem.W.fnOf "is_sequence" "is_sequence" (defArgs s_is_sequence) (defBody s_is_sequence) (defScope s_is_sequence) .none kV10 dc10 pm10 an10 cd10 ct10), sl10⟩) (c10 : PySem.W.codeIn K cd10 "is_sequence" = true) (k10 : PySem.W.keepIn K (.ref f10) = true)
    (a10 : PySem.W.nsIn K mainGlobals "is_sequence" = some (some (.ref f10)))
    {f11 : Addr} {od11 an11 : Option Addr} {sl11 : Array (Option Value)} {oc11 kV11 dc11 pm11 cd11 ct11 : Value}
    (l11 : K.lookup f11 = some ⟨oc11, od11, .func (PySem.W.fnOf "_law_box" "_law_box" (defArgs s__law_box) (defBody s__law_box) (defScope s__law_box) .none kV11 dc11 pm11 an11 cd11 ct11), sl11⟩) (c11 : PySem.W.codeIn K cd11 "_law_box" = true) (k11 : PySem.W.keepIn K (.ref f11) = true)
    (a11 : PySem.W.nsIn K mainGlobals "_law_box" = some (some (.ref f11)))
    {f12 : Addr} {od12 an12 : Option Addr} {sl12 : Array (Option Value)} {oc12 kV12 dc12 pm12 cd12 ct12 : Value}
    (l12 : K.lookup f12 = some ⟨oc12, od12, .func (PySem.W.fnOf "_law_take" "_law_take" (defArgs s__law_take) (defBody s__law_take) (defScope s__law_take) .none kV12 dc12 pm12 an12 cd12 ct12), sl12⟩) (c12 : PySem.W.codeIn K cd12 "_law_take" = true) (k12 : PySem.W.keepIn K (.ref f12) = true)
    (a12 : PySem.W.nsIn K mainGlobals "_law_take" = some (some (.ref f12)))
    {f13 : Addr} {od13 an13 : Option Addr} {sl13 : Array (Option Value)} {oc13 kV13 dc13 pm13 cd13 ct13 : Value}
    (l13 : K.lookup f13 = some ⟨oc13, od13, .func (PySem.W.fnOf "_law_pick" "_law_pick" (defArgs s__law_pick) (defBody s__law_pick) (defScope s__law_pick) .none kV13 dc13 pm13 an13 cd13 ct13), sl13⟩) (c13 : PySem.W.codeIn K cd13 "_law_pick" = true) (k13 : PySem.W.keepIn K (.ref f13) = true)
    (a13 : PySem.W.nsIn K mainGlobals "_law_pick" = some (some (.ref f13)))
    {f14 : Addr} {od14 an14 : Option Addr} {sl14 : Array (Option Value)} {oc14 kV14 dc14 pm14 cd14 ct14 : Value}
    (l14 : K.lookup f14 = some ⟨oc14, od14, .func (PySem.W.fnOf "_law_form" "_law_form" (defArgs s__law_form) (defBody s__law_form) (defScope s__law_form) .none kV14 dc14 pm14 an14 cd14 ct14), sl14⟩) (c14 : PySem.W.codeIn K cd14 "_law_form" = true) (k14 : PySem.W.keepIn K (.ref f14) = true)
    (a14 : PySem.W.nsIn K mainGlobals "_law_form" = some (some (.ref f14)))
    {f15 : Addr} {od15 an15 : Option Addr} {sl15 : Array (Option Value)} {oc15 kV15 dc15 pm15 cd15 ct15 : Value}
    (l15 : K.lookup f15 = some ⟨oc15, od15, .func (PySem.W.fnOf "_law_lane" "_law_lane" (defArgs s__law_lane) (defBody s__law_lane) (defScope s__law_lane) .none kV15 dc15 pm15 an15 cd15 ct15), sl15⟩) (c15 : PySem.W.codeIn K cd15 "_law_lane" = true) (k15 : PySem.W.keepIn K (.ref f15) = true)
    (a15 : PySem.W.nsIn K mainGlobals "_law_lane" = some (some (.ref f15)))
    {f16 : Addr} {od16 an16 : Option Addr} {sl16 : Array (Option Value)} {oc16 kV16 dc16 pm16 cd16 ct16 : Value}
    (l16 : K.lookup f16 = some ⟨oc16, od16, .func (PySem.W.fnOf "_law_lane_of" "_law_lane_of" (defArgs s__law_lane_of) (defBody s__law_lane_of) (defScope s__law_lane_of) .none kV16 dc16 pm16 an16 cd16 ct16), sl16⟩) (c16 : PySem.W.codeIn K cd16 "_law_lane_of" = true) (k16 : PySem.W.keepIn K (.ref f16) = true)
    (a16 : PySem.W.nsIn K mainGlobals "_law_lane_of" = some (some (.ref f16)))
    {f17 : Addr} {od17 an17 : Option Addr} {sl17 : Array (Option Value)} {oc17 kV17 dc17 pm17 cd17 ct17 : Value}
    (l17 : K.lookup f17 = some ⟨oc17, od17, .func (PySem.W.fnOf "_law_any" "_law_any" (defArgs s__law_any) (defBody s__law_any) (defScope s__law_any) .none kV17 dc17 pm17 an17 cd17 ct17), sl17⟩) (c17 : PySem.W.codeIn K cd17 "_law_any" = true) (k17 : PySem.W.keepIn K (.ref f17) = true)
    (a17 : PySem.W.nsIn K mainGlobals "_law_any" = some (some (.ref f17)))
    {f18 : Addr} {od18 an18 : Option Addr} {sl18 : Array (Option Value)} {oc18 kV18 dc18 pm18 cd18 ct18 : Value}
    (l18 : K.lookup f18 = some ⟨oc18, od18, .func (PySem.W.fnOf "_law_lane_due" "_law_lane_due" (defArgs s__law_lane_due) (defBody s__law_lane_due) (defScope s__law_lane_due) .none kV18 dc18 pm18 an18 cd18 ct18), sl18⟩) (c18 : PySem.W.codeIn K cd18 "_law_lane_due" = true) (k18 : PySem.W.keepIn K (.ref f18) = true)
    (a18 : PySem.W.nsIn K mainGlobals "_law_lane_due" = some (some (.ref f18)))
    {f19 : Addr} {od19 an19 : Option Addr} {sl19 : Array (Option Value)} {oc19 kV19 dc19 pm19 cd19 ct19 : Value}
    (l19 : K.lookup f19 = some ⟨oc19, od19, .func (PySem.W.fnOf "_law_block_due" "_law_block_due" (defArgs s__law_block_due) (defBody s__law_block_due) (defScope s__law_block_due) .none kV19 dc19 pm19 an19 cd19 ct19), sl19⟩) (c19 : PySem.W.codeIn K cd19 "_law_block_due" = true) (k19 : PySem.W.keepIn K (.ref f19) = true)
    (a19 : PySem.W.nsIn K mainGlobals "_law_block_due" = some (some (.ref f19)))
    {f20 : Addr} {od20 an20 : Option Addr} {sl20 : Array (Option Value)} {oc20 kV20 dc20 pm20 cd20 ct20 : Value}
    (l20 : K.lookup f20 = some ⟨oc20, od20, .func (PySem.W.fnOf "_law_refused" "_law_refused" (defArgs s__law_refused) (defBody s__law_refused) (defScope s__law_refused) .none kV20 dc20 pm20 an20 cd20 ct20), sl20⟩) (c20 : PySem.W.codeIn K cd20 "_law_refused" = true) (k20 : PySem.W.keepIn K (.ref f20) = true)
    (a20 : PySem.W.nsIn K mainGlobals "_law_refused" = some (some (.ref f20)))
    {f21 : Addr} {od21 an21 : Option Addr} {sl21 : Array (Option Value)} {oc21 kV21 dc21 pm21 cd21 ct21 : Value}
    (l21 : K.lookup f21 = some ⟨oc21, od21, .func (PySem.W.fnOf "law" "law" (defArgs s_law) (defBody s_law) (defScope s_law) .none kV21 dc21 pm21 an21 cd21 ct21), sl21⟩) (c21 : PySem.W.codeIn K cd21 "law" = true) (k21 : PySem.W.keepIn K (.ref f21) = true)
    (a21 : PySem.W.nsIn K mainGlobals "law" = some (some (.ref f21)))
    {tc_law tp_law : Addr} (tb_law : PySem.W.tabIn K "law" = some (tc_law, tp_law)) (tn_law : K.lookup tp_law = none)
    (z_abs : PySem.W.nsIn K mainGlobals "abs" = some none)
    (z_all : PySem.W.nsIn K mainGlobals "all" = some none)
    (z_bool : PySem.W.nsIn K mainGlobals "bool" = some none)
    (z_int : PySem.W.nsIn K mainGlobals "int" = some none)
    (z_isinstance : PySem.W.nsIn K mainGlobals "isinstance" = some none)
    (z_len : PySem.W.nsIn K mainGlobals "len" = some none)
    (z_list : PySem.W.nsIn K mainGlobals "list" = some none)
    (z_max : PySem.W.nsIn K mainGlobals "max" = some none)
    (z_min : PySem.W.nsIn K mainGlobals "min" = some none)
    (z_range : PySem.W.nsIn K mainGlobals "range" = some none)
    (z_str : PySem.W.nsIn K mainGlobals "str" = some none)
    (z_tuple : PySem.W.nsIn K mainGlobals "tuple" = some none)
    : LamX.LawAtS l w K CX0 12 63 "_law_script" mg fa h := by
  have e := hfa.symm.trans (PySem.W.mg_of X G a21)
  cases e
  let T : Txt K mg := {
    c_RingError := C_RingError, m_RingError := PySem.W.mg_of X G aC_RingError,
    c_InvalidForm := C_InvalidForm, m_InvalidForm := PySem.W.mg_of X G aC_InvalidForm,
    a_InvalidForm___init__ := f0, d_InvalidForm___init__ := _, F_InvalidForm___init__ := fun_mk (st := s_InvalidForm___init__) l0 c0 k0, b_InvalidForm___init__ := (fun_mk (st := s_InvalidForm___init__) l0 c0 k0).binds (ps := ["self", "word"]) (fun _ _ _ _ _ _ us hl => match us, hl with | [_, _], _ => rfl), k_InvalidForm___init__ := k0,
    x_InvalidForm := ⟨⟨_, _, _, _, _, _, _, _, _, _, _, _, _, _, _, xL_InvalidForm, by first | rfl | decide +kernel⟩, sa_InvalidForm, eC_InvalidForm, tC_InvalidForm, kC_InvalidForm⟩, X_InvalidForm := ⟨cl_InvalidForm, ga_InvalidForm, gg_InvalidForm, eC_InvalidForm, ca_InvalidForm, spec, takes, mo_InvalidForm⟩, f_InvalidForm := ⟨ga_InvalidForm, gg_InvalidForm, eC_InvalidForm, hC_InvalidForm⟩,
    n_InvalidForm := nw_InvalidForm, i_InvalidForm := iC_InvalidForm, t_InvalidForm := iT_InvalidForm, e_InvalidForm := PySem.W.exm_ref eC_InvalidForm hC_InvalidForm tC_InvalidForm sC_InvalidForm,
    c_InvalidLane := C_InvalidLane, m_InvalidLane := PySem.W.mg_of X G aC_InvalidLane,
    a_InvalidLane___init__ := f1, d_InvalidLane___init__ := _, F_InvalidLane___init__ := fun_mk (st := s_InvalidLane___init__) l1 c1 k1, b_InvalidLane___init__ := (fun_mk (st := s_InvalidLane___init__) l1 c1 k1).binds (ps := ["self", "word"]) (fun _ _ _ _ _ _ us hl => match us, hl with | [_, _], _ => rfl), k_InvalidLane___init__ := k1,
    x_InvalidLane := ⟨⟨_, _, _, _, _, _, _, _, _, _, _, _, _, _, _, xL_InvalidLane, by first | rfl | decide +kernel⟩, sa_InvalidLane, eC_InvalidLane, tC_InvalidLane, kC_InvalidLane⟩, X_InvalidLane := ⟨cl_InvalidLane, ga_InvalidLane, gg_InvalidLane, eC_InvalidLane, ca_InvalidLane, spec, takes, mo_InvalidLane⟩, f_InvalidLane := ⟨ga_InvalidLane, gg_InvalidLane, eC_InvalidLane, hC_InvalidLane⟩,
    n_InvalidLane := nw_InvalidLane, i_InvalidLane := iC_InvalidLane, t_InvalidLane := iT_InvalidLane, e_InvalidLane := PySem.W.exm_ref eC_InvalidLane hC_InvalidLane tC_InvalidLane sC_InvalidLane,
    c_InvalidBlock := C_InvalidBlock, m_InvalidBlock := PySem.W.mg_of X G aC_InvalidBlock,
    a_InvalidBlock___init__ := f2, d_InvalidBlock___init__ := _, F_InvalidBlock___init__ := fun_mk (st := s_InvalidBlock___init__) l2 c2 k2, b_InvalidBlock___init__ := (fun_mk (st := s_InvalidBlock___init__) l2 c2 k2).binds (ps := ["self", "word"]) (fun _ _ _ _ _ _ us hl => match us, hl with | [_, _], _ => rfl), k_InvalidBlock___init__ := k2,
    x_InvalidBlock := ⟨⟨_, _, _, _, _, _, _, _, _, _, _, _, _, _, _, xL_InvalidBlock, by first | rfl | decide +kernel⟩, sa_InvalidBlock, eC_InvalidBlock, tC_InvalidBlock, kC_InvalidBlock⟩, X_InvalidBlock := ⟨cl_InvalidBlock, ga_InvalidBlock, gg_InvalidBlock, eC_InvalidBlock, ca_InvalidBlock, spec, takes, mo_InvalidBlock⟩, f_InvalidBlock := ⟨ga_InvalidBlock, gg_InvalidBlock, eC_InvalidBlock, hC_InvalidBlock⟩,
    n_InvalidBlock := nw_InvalidBlock, i_InvalidBlock := iC_InvalidBlock, t_InvalidBlock := iT_InvalidBlock, e_InvalidBlock := PySem.W.exm_ref eC_InvalidBlock hC_InvalidBlock tC_InvalidBlock sC_InvalidBlock,
    c_Form := C_Form, m_Form := PySem.W.mg_of X G aC_Form,
    C_Form := ⟨pg_Form, hd_Form, po_Form, sa_Form⟩,
    n_Form_times := n_times_Form,
    n_Form_plus := n_plus_Form,
    n_Form_by := n_by_Form,
    I_Form := ⟨cl_Form, tC_Form, ca_Form, spec, takes, mo_Form⟩, N_Form := ⟨mo_N_Form, mo_S_Form, mo_T_Form, mo_L_Form, mo_I_Form⟩,
    a_Form___init__ := f3, d_Form___init__ := _, F_Form___init__ := (show FunD K "__init__" "Form.__init__" (defArgs s_Form___init__) (defBody s_Form___init__) (defScope s_Form___init__) [(.int 0), (.int 0), (.int 1)] [] _ _ from ⟨⟨_, _, _, _, _, _, _, _, _, _, rfl, l3, c3, .inr ⟨by simp, _, _, [Value.int 0 t3_0, Value.int 0 t3_1, Value.int 1 t3_2], _, rfl, t3, rfl, by repeat (first | exact .nil | refine .cons ⟨_, rfl⟩ ?_ | refine .cons rfl ?_)⟩, .inl rfl⟩, k3⟩), b_Form___init__ := (by obtain ⟨ds, rv, bb⟩ := (show FunD K "__init__" "Form.__init__" (defArgs s_Form___init__) (defBody s_Form___init__) (defScope s_Form___init__) [(.int 0), (.int 0), (.int 1)] [] _ _ from ⟨⟨_, _, _, _, _, _, _, _, _, _, rfl, l3, c3, .inr ⟨by simp, _, _, [Value.int 0 t3_0, Value.int 0 t3_1, Value.int 1 t3_2], _, rfl, t3, rfl, by repeat (first | exact .nil | refine .cons ⟨_, rfl⟩ ?_ | refine .cons rfl ?_)⟩, .inl rfl⟩, k3⟩).binds1 (ps := ["self", "times", "plus", "by"]) 4 3 (by simp) rfl (fun _ _ _ _ _ _ _ us its hl hi => match us, its, hl, hi with | [_, _, _, _], [_, _, _], _, _ => ⟨_, rfl, rfl⟩); cases rv; exact bb), k_Form___init__ := k3,
    M_Form := ⟨mk_Form, a3, i3, kc_Form⟩,
    a_Form___eq__ := f4, d_Form___eq__ := _, F_Form___eq__ := fun_mk (st := s_Form___eq__) l4 c4 k4, b_Form___eq__ := (fun_mk (st := s_Form___eq__) l4 c4 k4).binds (ps := ["self", "other"]) (fun _ _ _ _ _ _ us hl => match us, hl with | [_, _], _ => rfl), k_Form___eq__ := k4,
    O_Form := ⟨a4, i4, nE_Form, mo_Form⟩,
    c_Lane := C_Lane, m_Lane := PySem.W.mg_of X G aC_Lane,
    C_Lane := ⟨pg_Lane, hd_Lane, po_Lane, sa_Lane⟩,
    n_Lane_way := n_way_Lane,
    n_Lane_sign := n_sign_Lane,
    n_Lane_shift := n_shift_Lane,
    n_Lane_deed := n_deed_Lane,
    I_Lane := ⟨cl_Lane, tC_Lane, ca_Lane, spec, takes, mo_Lane⟩, N_Lane := ⟨mo_N_Lane, mo_S_Lane, mo_T_Lane, mo_L_Lane, mo_I_Lane⟩,
    a_Lane___init__ := f5, d_Lane___init__ := _, F_Lane___init__ := fun_mk (st := s_Lane___init__) l5 c5 k5, b_Lane___init__ := (fun_mk (st := s_Lane___init__) l5 c5 k5).binds (ps := ["self", "way", "sign", "shift", "deed"]) (fun _ _ _ _ _ _ us hl => match us, hl with | [_, _, _, _, _], _ => rfl), k_Lane___init__ := k5,
    M_Lane := ⟨mk_Lane, a5, i5, kc_Lane⟩,
    a_Lane___eq__ := f6, d_Lane___eq__ := _, F_Lane___eq__ := fun_mk (st := s_Lane___eq__) l6 c6 k6, b_Lane___eq__ := (fun_mk (st := s_Lane___eq__) l6 c6 k6).binds (ps := ["self", "other"]) (fun _ _ _ _ _ _ us hl => match us, hl with | [_, _], _ => rfl), k_Lane___eq__ := k6,
    O_Lane := ⟨a6, i6, nE_Lane, mo_Lane⟩,
    c_Block := C_Block, m_Block := PySem.W.mg_of X G aC_Block,
    C_Block := ⟨pg_Block, hd_Block, po_Block, sa_Block⟩,
    n_Block_rounds := n_rounds_Block,
    n_Block_lanes := n_lanes_Block,
    I_Block := ⟨cl_Block, tC_Block, ca_Block, spec, takes, mo_Block⟩, N_Block := ⟨mo_N_Block, mo_S_Block, mo_T_Block, mo_L_Block, mo_I_Block⟩,
    a_Block___init__ := f7, d_Block___init__ := _, F_Block___init__ := fun_mk (st := s_Block___init__) l7 c7 k7, b_Block___init__ := (fun_mk (st := s_Block___init__) l7 c7 k7).binds (ps := ["self", "rounds", "lanes"]) (fun _ _ _ _ _ _ us hl => match us, hl with | [_, _, _], _ => rfl), k_Block___init__ := k7,
    M_Block := ⟨mk_Block, a7, i7, kc_Block⟩,
    a_Block___eq__ := f8, d_Block___eq__ := _, F_Block___eq__ := fun_mk (st := s_Block___eq__) l8 c8 k8, b_Block___eq__ := (fun_mk (st := s_Block___eq__) l8 c8 k8).binds (ps := ["self", "other"]) (fun _ _ _ _ _ _ us hl => match us, hl with | [_, _], _ => rfl), k_Block___eq__ := k8,
    O_Block := ⟨a8, i8, nE_Block, mo_Block⟩,
    kit_InvalidLane_RingError := kit_InvalidLane_RingError,
    kit_InvalidLane_InvalidBlock := kit_InvalidLane_InvalidBlock,
    kit_InvalidLane_InvalidForm := kit_InvalidLane_InvalidForm,
    kit_InvalidBlock_RingError := kit_InvalidBlock_RingError,
    kit_InvalidBlock_InvalidForm := kit_InvalidBlock_InvalidForm,
    kit_InvalidBlock_InvalidLane := kit_InvalidBlock_InvalidLane,
    kit_Lane_Form := kit_Lane_Form,
    kit_Form_Lane := kit_Form_Lane,
    A_WAYS := A_WAYS, m_WAYS := PySem.W.mg_of X G a_WAYS, s_WAYS := fun H => .inr ⟨_, _, _, l_WAYS, rfl, rfl, by show 2 ≤ sizeLine; decide, by repeat (first | exact .nil | refine .cons ⟨_, rfl⟩ ?_)⟩,
    A_SIGNS := A_SIGNS, m_SIGNS := PySem.W.mg_of X G a_SIGNS, s_SIGNS := fun H => .inr ⟨_, _, _, l_SIGNS, rfl, rfl, by show 2 ≤ sizeLine; decide, by repeat (first | exact .nil | refine .cons ⟨_, rfl⟩ ?_)⟩,
    A_DEEDS := A_DEEDS, m_DEEDS := PySem.W.mg_of X G a_DEEDS, s_DEEDS := fun H => .inr ⟨_, _, _, l_DEEDS, rfl, rfl, by show 2 ≤ sizeLine; decide, by repeat (first | exact .nil | refine .cons ⟨_, rfl⟩ ?_)⟩,
    a_is_whole := f9, d_is_whole := _, F_is_whole := fun_mk (st := s_is_whole) l9 c9 k9, b_is_whole := (fun_mk (st := s_is_whole) l9 c9 k9).binds (ps := ["value"]) (fun _ _ _ _ _ _ us hl => match us, hl with | [_], _ => rfl), k_is_whole := k9,
    m_is_whole := PySem.W.mg_of X G a9,
    a_is_sequence := f10, d_is_sequence := _, F_is_sequence := fun_mk (st := s_is_sequence) l10 c10 k10, b_is_sequence := (fun_mk (st := s_is_sequence) l10 c10 k10).binds (ps := ["value"]) (fun _ _ _ _ _ _ us hl => match us, hl with | [_], _ => rfl), k_is_sequence := k10,
    m_is_sequence := PySem.W.mg_of X G a10,
    a__law_box := f11, d__law_box := _, F__law_box := fun_mk (st := s__law_box) l11 c11 k11, b__law_box := (fun_mk (st := s__law_box) l11 c11 k11).binds (ps := ["_law_script", "_law_k"]) (fun _ _ _ _ _ _ us hl => match us, hl with | [_, _], _ => rfl), k__law_box := k11,
    m__law_box := PySem.W.mg_of X G a11,
    a__law_take := f12, d__law_take := _, F__law_take := fun_mk (st := s__law_take) l12 c12 k12, b__law_take := (fun_mk (st := s__law_take) l12 c12 k12).binds (ps := ["_law_box_here", "_law_many"]) (fun _ _ _ _ _ _ us hl => match us, hl with | [_, _], _ => rfl), k__law_take := k12,
    m__law_take := PySem.W.mg_of X G a12,
    a__law_pick := f13, d__law_pick := _, F__law_pick := fun_mk (st := s__law_pick) l13 c13 k13, b__law_pick := (fun_mk (st := s__law_pick) l13 c13 k13).binds (ps := ["_law_box_here", "_law_some"]) (fun _ _ _ _ _ _ us hl => match us, hl with | [_, _], _ => rfl), k__law_pick := k13,
    m__law_pick := PySem.W.mg_of X G a13,
    a__law_form := f14, d__law_form := _, F__law_form := fun_mk (st := s__law_form) l14 c14 k14, b__law_form := (fun_mk (st := s__law_form) l14 c14 k14).binds (ps := ["_law_box_here", "_law_far"]) (fun _ _ _ _ _ _ us hl => match us, hl with | [_, _], _ => rfl), k__law_form := k14,
    m__law_form := PySem.W.mg_of X G a14,
    a__law_lane := f15, d__law_lane := _, F__law_lane := fun_mk (st := s__law_lane) l15 c15 k15, b__law_lane := (fun_mk (st := s__law_lane) l15 c15 k15).binds (ps := ["_law_box_here", "_law_far"]) (fun _ _ _ _ _ _ us hl => match us, hl with | [_, _], _ => rfl), k__law_lane := k15,
    m__law_lane := PySem.W.mg_of X G a15,
    a__law_lane_of := f16, d__law_lane_of := _, F__law_lane_of := fun_mk (st := s__law_lane_of) l16 c16 k16, b__law_lane_of := (fun_mk (st := s__law_lane_of) l16 c16 k16).binds (ps := ["_law_lane_here"]) (fun _ _ _ _ _ _ us hl => match us, hl with | [_], _ => rfl), k__law_lane_of := k16,
    m__law_lane_of := PySem.W.mg_of X G a16,
    a__law_any := f17, d__law_any := _, F__law_any := fun_mk (st := s__law_any) l17 c17 k17, b__law_any := (fun_mk (st := s__law_any) l17 c17 k17).binds (ps := ["_law_box_here", "_law_deep"]) (fun _ _ _ _ _ _ us hl => match us, hl with | [_, _], _ => rfl), k__law_any := k17,
    m__law_any := PySem.W.mg_of X G a17,
    a__law_lane_due := f18, d__law_lane_due := _, F__law_lane_due := fun_mk (st := s__law_lane_due) l18 c18 k18, b__law_lane_due := (fun_mk (st := s__law_lane_due) l18 c18 k18).binds (ps := ["_law_told"]) (fun _ _ _ _ _ _ us hl => match us, hl with | [_], _ => rfl), k__law_lane_due := k18,
    m__law_lane_due := PySem.W.mg_of X G a18,
    a__law_block_due := f19, d__law_block_due := _, F__law_block_due := fun_mk (st := s__law_block_due) l19 c19 k19, b__law_block_due := (fun_mk (st := s__law_block_due) l19 c19 k19).binds (ps := ["_law_told"]) (fun _ _ _ _ _ _ us hl => match us, hl with | [_], _ => rfl), k__law_block_due := k19,
    m__law_block_due := PySem.W.mg_of X G a19,
    a__law_refused := f20, d__law_refused := _, F__law_refused := fun_mk (st := s__law_refused) l20 c20 k20, b__law_refused := (fun_mk (st := s__law_refused) l20 c20 k20).binds (ps := ["_law_work"]) (fun _ _ _ _ _ _ us hl => match us, hl with | [_], _ => rfl), k__law_refused := k20,
    m__law_refused := PySem.W.mg_of X G a20,
    a_law := fa, d_law := _, F_law := fun_mk (st := s_law) l21 c21 k21, b_law := (fun_mk (st := s_law) l21 c21 k21).binds (ps := ["_law_script"]) (fun _ _ _ _ _ _ us hl => match us, hl with | [_], _ => rfl), k_law := k21,
    tc_law := tc_law, tp_law := tp_law, cd_law := code_tab a21 l21 tb_law,
    m_law := PySem.W.mg_of X G a21,
    z_abs := PySem.W.mg_none_of X G z_abs, z_all := PySem.W.mg_none_of X G z_all, z_bool := PySem.W.mg_none_of X G z_bool, z_int := PySem.W.mg_none_of X G z_int, z_isinstance := PySem.W.mg_none_of X G z_isinstance, z_len := PySem.W.mg_none_of X G z_len, z_list := PySem.W.mg_none_of X G z_list, z_max := PySem.W.mg_none_of X G z_max, z_min := PySem.W.mg_none_of X G z_min, z_range := PySem.W.mg_none_of X G z_range, z_str := PySem.W.mg_none_of X G z_str, z_tuple := PySem.W.mg_none_of X G z_tuple }
  refine ⟨PySem.W.fnOf "law" "law" (defArgs s_law) (defBody s_law) (defScope s_law) .none kV21 dc21 pm21 an21 cd21 ct21, [(tc_law, tp_law)], spLaw K (tabsT T), ?_, ?_, ?_, fun s v => .of_eq rfl, fun H a ns hl _ hH hS => ⟨a, ns, rfl, hS, hl, ?_, fun _ => rfl⟩, fun base _ _ hTB => ok_law T (hTB (tc_law, tp_law) (by simp))⟩
  · intro p hp
    simp only [List.mem_cons, List.not_mem_nil, or_false] at hp
    rcases hp with rfl
    · exact (TA "law" (by simp) _ _ tb_law).2
  · intro p hp
    simp only [List.mem_cons, List.not_mem_nil, or_false] at hp
    rcases hp with rfl
    · exact tn_law
  · intro p hp
    simp only [List.mem_cons, List.not_mem_nil, or_false] at hp
    rcases hp with rfl
    · exact (TA "law" (by simp) _ _ tb_law).1
  · intro p hp
    simp only [tabsT, List.mem_cons, List.not_mem_nil, or_false] at hp
    rcases hp with rfl
    · exact NdefX.TabN.nil (hH (tc_law, tp_law) (by simp))
end K06
open PySem PySem.W PyProof.Rows
set_option maxHeartbeats 0 in
theorem PySem.Challenge.cw_ringsums_k06_lanes_and_blocks_refused_holds : PySem.Challenge.rw_ringsums_k06_lanes_and_blocks_refused.Holds := by
  w_on; o_law; k_head; (case hw => w_witness2)
  k_fill
  refine Rs.walk_tabs (l := PySem.Challenge.rw_ringsums_k06_lanes_and_blocks_refused) (n := 63) (k := 12) (x := "_law_script") (CX := fun _ => L2.CX0) ["law"] rfl (by decide) rfl ⟨rfl, by decide, by decide⟩ (by first | rfl | decide +kernel) (fun w h Y => PySem.W.km_in_of Y) ?F (fun _ _ _ _ _ h => h)
  case F =>
    intro w mg fa h _ KX G hmg TA
    refine' K06.all_mk KX G hmg TA ?aC_RingError ?aC_InvalidForm ?xL_InvalidForm ?sa_InvalidForm ?ga_InvalidForm ?gg_InvalidForm ?nw_InvalidForm ?ca_InvalidForm ?kC_InvalidForm ?eC_InvalidForm ?tC_InvalidForm ?hC_InvalidForm ?sC_InvalidForm ?mo_InvalidForm ?cl_InvalidForm ?l0 ?c0 ?k0 ?iC_InvalidForm ?iT_InvalidForm ?aC_InvalidLane ?xL_InvalidLane ?sa_InvalidLane ?ga_InvalidLane ?gg_InvalidLane ?nw_InvalidLane ?ca_InvalidLane ?kC_InvalidLane ?eC_InvalidLane ?tC_InvalidLane ?hC_InvalidLane ?sC_InvalidLane ?mo_InvalidLane ?cl_InvalidLane ?l1 ?c1 ?k1 ?iC_InvalidLane ?iT_InvalidLane ?aC_InvalidBlock ?xL_InvalidBlock ?sa_InvalidBlock ?ga_InvalidBlock ?gg_InvalidBlock ?nw_InvalidBlock ?ca_InvalidBlock ?kC_InvalidBlock ?eC_InvalidBlock ?tC_InvalidBlock ?hC_InvalidBlock ?sC_InvalidBlock ?mo_InvalidBlock ?cl_InvalidBlock ?l2 ?c2 ?k2 ?iC_InvalidBlock ?iT_InvalidBlock ?aC_Form ?pg_Form ?hd_Form ?po_Form ?sa_Form ?mk_Form ?kc_Form ?n_times_Form ?n_plus_Form ?n_by_Form ?cl_Form ?tC_Form ?ca_Form ?mo_Form ?nE_Form ?mo_N_Form ?mo_S_Form ?mo_T_Form ?mo_L_Form ?mo_I_Form ?t3 ?l3 ?c3 ?k3 ?a3 ?i3 ?l4 ?c4 ?k4 ?a4 ?i4 ?aC_Lane ?pg_Lane ?hd_Lane ?po_Lane ?sa_Lane ?mk_Lane ?kc_Lane ?n_way_Lane ?n_sign_Lane ?n_shift_Lane ?n_deed_Lane ?cl_Lane ?tC_Lane ?ca_Lane ?mo_Lane ?nE_Lane ?mo_N_Lane ?mo_S_Lane ?mo_T_Lane ?mo_L_Lane ?mo_I_Lane ?l5 ?c5 ?k5 ?a5 ?i5 ?l6 ?c6 ?k6 ?a6 ?i6 ?aC_Block ?pg_Block ?hd_Block ?po_Block ?sa_Block ?mk_Block ?kc_Block ?n_rounds_Block ?n_lanes_Block ?cl_Block ?tC_Block ?ca_Block ?mo_Block ?nE_Block ?mo_N_Block ?mo_S_Block ?mo_T_Block ?mo_L_Block ?mo_I_Block ?l7 ?c7 ?k7 ?a7 ?i7 ?l8 ?c8 ?k8 ?a8 ?i8 ?spec ?takes ?kit_InvalidLane_RingError ?kit_InvalidLane_InvalidBlock ?kit_InvalidLane_InvalidForm ?kit_InvalidBlock_RingError ?kit_InvalidBlock_InvalidForm ?kit_InvalidBlock_InvalidLane ?kit_Lane_Form ?kit_Form_Lane ?a_WAYS ?l_WAYS ?a_SIGNS ?l_SIGNS ?a_DEEDS ?l_DEEDS ?l9 ?c9 ?k9 ?a9 ?l10 ?c10 ?k10 ?a10 ?l11 ?c11 ?k11 ?a11 ?l12 ?c12 ?k12 ?a12 ?l13 ?c13 ?k13 ?a13 ?l14 ?c14 ?k14 ?a14 ?l15 ?c15 ?k15 ?a15 ?l16 ?c16 ?k16 ?a16 ?l17 ?c17 ?k17 ?a17 ?l18 ?c18 ?k18 ?a18 ?l19 ?c19 ?k19 ?a19 ?l20 ?c20 ?k20 ?a20 ?l21 ?c21 ?k21 ?a21 ?tb_law ?tn_law ?z_abs ?z_all ?z_bool ?z_int ?z_isinstance ?z_len ?z_list ?z_max ?z_min ?z_range ?z_str ?z_tuple
    (case aC_RingError => k_is)
    (case aC_InvalidForm => k_is)
    (case aC_InvalidLane => k_is)
    (case aC_InvalidBlock => k_is)
    (case aC_Form => k_is)
    (case aC_Lane => k_is)
    (case aC_Block => k_is)
    (case a_WAYS => k_is)
    (case a_SIGNS => k_is)
    (case a_DEEDS => k_is)
    (case iC_InvalidForm => k_is)
    (case iC_InvalidLane => k_is)
    (case iC_InvalidBlock => k_is)
    (case a3 => k_is)
    (case a4 => k_is)
    (case a5 => k_is)
    (case a6 => k_is)
    (case a7 => k_is)
    (case a8 => k_is)
    (case a9 => k_is)
    (case a10 => k_is)
    (case a11 => k_is)
    (case a12 => k_is)
    (case a13 => k_is)
    (case a14 => k_is)
    (case a15 => k_is)
    (case a16 => k_is)
    (case a17 => k_is)
    (case a18 => k_is)
    (case a19 => k_is)
    (case a20 => k_is)
    (case a21 => k_is)
    (case xL_InvalidForm => k_is)
    (case l0 => k_is)
    (case xL_InvalidLane => k_is)
    (case l1 => k_is)
    (case xL_InvalidBlock => k_is)
    (case l2 => k_is)
    (case l3 => k_is)
    (case l4 => k_is)
    (case l5 => k_is)
    (case l6 => k_is)
    (case l7 => k_is)
    (case l8 => k_is)
    (case l_WAYS => k_is)
    (case l_SIGNS => k_is)
    (case l_DEEDS => k_is)
    (case l9 => k_is)
    (case l10 => k_is)
    (case l11 => k_is)
    (case l12 => k_is)
    (case l13 => k_is)
    (case l14 => k_is)
    (case l15 => k_is)
    (case l16 => k_is)
    (case l17 => k_is)
    (case l18 => k_is)
    (case l19 => k_is)
    (case l20 => k_is)
    (case l21 => k_is)
    (case sa_InvalidForm => k_is)
    (case ga_InvalidForm => k_is)
    (case gg_InvalidForm => k_is)
    (case nw_InvalidForm => k_is)
    (case ca_InvalidForm => k_is)
    (case kC_InvalidForm => k_is)
    (case eC_InvalidForm => k_is)
    (case tC_InvalidForm => first | rfl | k_is)
    (case hC_InvalidForm => k_is)
    (case sC_InvalidForm => first | rfl | k_is)
    (case mo_InvalidForm => first | rfl | k_is)
    (case cl_InvalidForm => first | rfl | k_is)
    (case c0 => k_is)
    (case k0 => k_is)
    (case iT_InvalidForm => k_is)
    (case sa_InvalidLane => k_is)
    (case ga_InvalidLane => k_is)
    (case gg_InvalidLane => k_is)
    (case nw_InvalidLane => k_is)
    (case ca_InvalidLane => k_is)
    (case kC_InvalidLane => k_is)
    (case eC_InvalidLane => k_is)
    (case tC_InvalidLane => first | rfl | k_is)
    (case hC_InvalidLane => k_is)
    (case sC_InvalidLane => first | rfl | k_is)
    (case mo_InvalidLane => first | rfl | k_is)
    (case cl_InvalidLane => first | rfl | k_is)
    (case c1 => k_is)
    (case k1 => k_is)
    (case iT_InvalidLane => k_is)
    (case sa_InvalidBlock => k_is)
    (case ga_InvalidBlock => k_is)
    (case gg_InvalidBlock => k_is)
    (case nw_InvalidBlock => k_is)
    (case ca_InvalidBlock => k_is)
    (case kC_InvalidBlock => k_is)
    (case eC_InvalidBlock => k_is)
    (case tC_InvalidBlock => first | rfl | k_is)
    (case hC_InvalidBlock => k_is)
    (case sC_InvalidBlock => first | rfl | k_is)
    (case mo_InvalidBlock => first | rfl | k_is)
    (case cl_InvalidBlock => first | rfl | k_is)
    (case c2 => k_is)
    (case k2 => k_is)
    (case iT_InvalidBlock => k_is)
    (case pg_Form => k_is)
    (case hd_Form => k_is)
    (case po_Form => k_is)
    (case sa_Form => k_is)
    (case mk_Form => k_is)
    (case kc_Form => k_is)
    (case n_times_Form => k_is)
    (case n_plus_Form => k_is)
    (case n_by_Form => k_is)
    (case cl_Form => first | rfl | k_is)
    (case tC_Form => first | rfl | k_is)
    (case ca_Form => k_is)
    (case mo_Form => first | rfl | k_is)
    (case nE_Form => k_is)
    (case mo_N_Form => first | rfl | k_is)
    (case mo_S_Form => first | rfl | k_is)
    (case mo_T_Form => first | rfl | k_is)
    (case mo_L_Form => first | rfl | k_is)
    (case mo_I_Form => first | rfl | k_is)
    (case t3 => first | rfl | k_is)
    (case c3 => k_is)
    (case k3 => k_is)
    (case i3 => k_is)
    (case c4 => k_is)
    (case k4 => k_is)
    (case i4 => k_is)
    (case pg_Lane => k_is)
    (case hd_Lane => k_is)
    (case po_Lane => k_is)
    (case sa_Lane => k_is)
    (case mk_Lane => k_is)
    (case kc_Lane => k_is)
    (case n_way_Lane => k_is)
    (case n_sign_Lane => k_is)
    (case n_shift_Lane => k_is)
    (case n_deed_Lane => k_is)
    (case cl_Lane => first | rfl | k_is)
    (case tC_Lane => first | rfl | k_is)
    (case ca_Lane => k_is)
    (case mo_Lane => first | rfl | k_is)
    (case nE_Lane => k_is)
    (case mo_N_Lane => first | rfl | k_is)
    (case mo_S_Lane => first | rfl | k_is)
    (case mo_T_Lane => first | rfl | k_is)
    (case mo_L_Lane => first | rfl | k_is)
    (case mo_I_Lane => first | rfl | k_is)
    (case c5 => k_is)
    (case k5 => k_is)
    (case i5 => k_is)
    (case c6 => k_is)
    (case k6 => k_is)
    (case i6 => k_is)
    (case pg_Block => k_is)
    (case hd_Block => k_is)
    (case po_Block => k_is)
    (case sa_Block => k_is)
    (case mk_Block => k_is)
    (case kc_Block => k_is)
    (case n_rounds_Block => k_is)
    (case n_lanes_Block => k_is)
    (case cl_Block => first | rfl | k_is)
    (case tC_Block => first | rfl | k_is)
    (case ca_Block => k_is)
    (case mo_Block => first | rfl | k_is)
    (case nE_Block => k_is)
    (case mo_N_Block => first | rfl | k_is)
    (case mo_S_Block => first | rfl | k_is)
    (case mo_T_Block => first | rfl | k_is)
    (case mo_L_Block => first | rfl | k_is)
    (case mo_I_Block => first | rfl | k_is)
    (case c7 => k_is)
    (case k7 => k_is)
    (case i7 => k_is)
    (case c8 => k_is)
    (case k8 => k_is)
    (case i8 => k_is)
    (case spec => first | rfl | k_is)
    (case takes => first | rfl | k_is)
    (case kit_InvalidLane_RingError => first | rfl | k_is)
    (case kit_InvalidLane_InvalidBlock => first | rfl | k_is)
    (case kit_InvalidLane_InvalidForm => first | rfl | k_is)
    (case kit_InvalidBlock_RingError => first | rfl | k_is)
    (case kit_InvalidBlock_InvalidForm => first | rfl | k_is)
    (case kit_InvalidBlock_InvalidLane => first | rfl | k_is)
    (case kit_Lane_Form => first | rfl | k_is)
    (case kit_Form_Lane => first | rfl | k_is)
    (case c9 => k_is)
    (case k9 => k_is)
    (case c10 => k_is)
    (case k10 => k_is)
    (case c11 => k_is)
    (case k11 => k_is)
    (case c12 => k_is)
    (case k12 => k_is)
    (case c13 => k_is)
    (case k13 => k_is)
    (case c14 => k_is)
    (case k14 => k_is)
    (case c15 => k_is)
    (case k15 => k_is)
    (case c16 => k_is)
    (case k16 => k_is)
    (case c17 => k_is)
    (case k17 => k_is)
    (case c18 => k_is)
    (case k18 => k_is)
    (case c19 => k_is)
    (case k19 => k_is)
    (case c20 => k_is)
    (case k20 => k_is)
    (case c21 => k_is)
    (case k21 => k_is)
    (case z_abs => k_is)
    (case z_all => k_is)
    (case z_bool => k_is)
    (case z_int => k_is)
    (case z_isinstance => k_is)
    (case z_len => k_is)
    (case z_list => k_is)
    (case z_max => k_is)
    (case z_min => k_is)
    (case z_range => k_is)
    (case z_str => k_is)
    (case z_tuple => k_is)
    (case tb_law => rfl)
    (case tn_law => rfl)
