import PyProof.Rows.All
import Wide.All
import OpenK.AllK
import Wide.FinOn
import HandS.ForMost
import HandS.Wide
import HandS.Conv
import HandS.IsInst
import HandS.Walk
import HandS.TupAny
import HandS.TupMul
import HandS.TryOnly
import HandS.Style
import HandS.Flow
import HandS.Deep
import HandS.ForExc
import HandS.ExcInit
import HandS.ExcIs
import HandS.ExcField
import HandS.Defaults
import HandS.RaiseMore
import KE.KExcIs
import HandS.OwnEq
import HandS.SlotsOwn
import PyProof.InstNe
import HandS.DictComp
import PyProof.Rows.FloatCmp
import KE.KOpsOwn
import OpenK.KMeth
import HandS.Property
import HandS.Gcd
import HandS.ListItems
import HandS.Zip
import HandS.GenList
import KE.GoesZip
import KE.KItemsList
import PyProof.ZipIter
import HandS.FStr
import HandS.Text
import KE.KCallOwn
import KE.KIntText
import PyProof.Rows.ReprOcc
import KE.KxField
import KE.KFmtOwn
import PyProof.ReprRoads
import PyProof.CallFns
import HandS.ExcOwn
import OpenK.KOps
import HandS.ClsMeth
import HandS.IterVal
import HandS.ExcValue
import OpenK.KCls
import HandS.Nested
import HandS.EndOwn
import PyProof.Rows.StrStep
import PyProof.ListStr
import HandS.StrMore
import HandS.Star
import PySem.Challenge.RW_ringsums_k09_texts_of_plans
set_option Elab.async false
set_option linter.all false
set_option maxRecDepth 100000
set_option maxHeartbeats 4000000
namespace Rs
open PySem PySem.Spec PyProof.Rows L2

/-! ### what never changes: tuples, instances, their dicts -/
def frozen : HO → Prop
  | .tup _ => True
  | .ins _ _ _ => True
  | .own _ => True
  | .frz _ _ => True
  | _ => False
def Fz (H H' : Hp) : Prop := ∀ a o, frozen o → H a = some o → H' a = some o
theorem Fz.refl (H : Hp) : Fz H H := fun _ _ _ h => h
theorem Fz.trans {H H1 H2 : Hp} (a : Fz H H1) (b : Fz H1 H2) : Fz H H2 := fun x o f h => b x o f (a x o f h)
theorem Fz.of_same {H H' : Hp} (s : Same H H') : Fz H H' := fun a o _ h => s a o h
theorem same_new {H : Hp} {p : Addr} {o : HO} (h : H p = none) : Same H (upd H p o) := fun b x e => by
  rw [upd_ne (ne_of_none e h)]
  exact e
theorem Fz.new {H : Hp} {p : Addr} {o : HO} (h : H p = none) : Fz H (upd H p o) := Fz.of_same (same_new h)
theorem Fz.lst {H : Hp} {p : Addr} {xs : List V} {o : HO} (h : H p = some (.lst xs)) : Fz H (upd H p o) := fun a u f e => by
  have : a ≠ p := by
    rintro rfl
    rw [h] at e
    cases e
    exact f
  rw [upd_ne this]
  exact e

/-! ### data of tuples -/
mutual
inductive Dt (K : PySem.W.Frag) (H : Hp) : V → PyData → Prop
  | non : Dt K H .non .none
  | bl (b : Bool) : Dt K H (.bl b) (.bool b)
  | int (i : Int) : Dt K H (.int i) (.int i)
  | str (x : Str) : Dt K H (.str x) (.str x)
  | tup {a : Addr} {xs : List V} {ds : List PyData} : SqT K H a xs → DtAll K H xs ds → Dt K H (.ref a) (.tuple ds)
inductive DtAll (K : PySem.W.Frag) (H : Hp) : List V → List PyData → Prop
  | nil : DtAll K H [] []
  | cons {v : V} {vs : List V} {d : PyData} {ds : List PyData} : Dt K H v d → DtAll K H vs ds → DtAll K H (v :: vs) (d :: ds)
end
theorem Fz.sqT {K : PySem.W.Frag} {H H' : Hp} {a : Addr} {xs : List V} (e : Fz H H') (h : SqT K H a xs) : SqT K H' a xs := by
  rcases h with (h | ⟨o, h⟩) | h
  · exact .inl (.inl (e _ _ trivial h))
  · exact .inl (.inr ⟨o, e _ _ trivial h⟩)
  · exact .inr h
mutual
theorem Dt.mono {K : PySem.W.Frag} {H H' : Hp} (e : Fz H H') : ∀ {v : V} {d : PyData}, Dt K H v d → Dt K H' v d
  | _, _, .non => .non
  | _, _, .bl b => .bl b
  | _, _, .int i => .int i
  | _, _, .str x => .str x
  | _, _, .tup h hs => .tup (e.sqT h) (DtAll.mono e hs)
theorem DtAll.mono {K : PySem.W.Frag} {H H' : Hp} (e : Fz H H') : ∀ {v : List V} {d : List PyData}, DtAll K H v d → DtAll K H' v d
  | _, _, .nil => .nil
  | _, _, .cons h hs => .cons (h.mono e) (DtAll.mono e hs)
end
mutual
theorem Dt.dp {K : PySem.W.Frag} {H : Hp} : ∀ {v : V} {d : PyData}, Dt K H v d → Dp K H v d
  | _, _, .non => .non
  | _, _, .bl b => .bl b
  | _, _, .int i => .int i
  | _, _, .str x => .str x
  | _, _, .tup h hs => .tup h (DtAll.dp hs)
theorem DtAll.dp {K : PySem.W.Frag} {H : Hp} : ∀ {v : List V} {d : List PyData}, DtAll K H v d → DpAll K H v d
  | _, _, .nil => .nil
  | _, _, .cons h hs => .cons h.dp (DtAll.dp hs)
end
theorem DtAll.length {K : PySem.W.Frag} {H : Hp} : ∀ {v : List V} {d : List PyData}, DtAll K H v d → v.length = d.length
  | _, _, .nil => rfl
  | _, _, .cons _ hs => congrArg (· + 1) hs.length
theorem DtAll.append {K : PySem.W.Frag} {H : Hp} : ∀ {v w : List V} {d e : List PyData}, DtAll K H v d → DtAll K H w e → DtAll K H (v ++ w) (d ++ e)
  | _, _, _, _, .nil, k => k
  | _, _, _, _, .cons h hs, k => .cons h (hs.append k)
theorem DtAll.get {K : PySem.W.Frag} {H : Hp} : ∀ {v : List V} {d : List PyData} {i : Nat} {x : PyData}, DtAll K H v d → d[i]? = some x → ∃ y, v[i]? = some y ∧ Dt K H y x
  | _, _, i, x, .nil, e => by simp at e
  | _, _, 0, x, .cons h _, e => ⟨_, rfl, by
      have : _ = x := Option.some.inj e
      exact this ▸ h⟩
  | _, _, i + 1, x, .cons _ hs, e => by
    have e' := e
    simp only [List.getElem?_cons_succ] at e' ⊢
    exact hs.get e'
theorem DtAll.getV {K : PySem.W.Frag} {H : Hp} : ∀ {v : List V} {d : List PyData} {i : Nat} {y : V}, DtAll K H v d → v[i]? = some y → ∃ x, d[i]? = some x ∧ Dt K H y x
  | _, _, i, x, .nil, e => by simp at e
  | _, _, 0, x, .cons h _, e => ⟨_, rfl, by
      have : _ = x := Option.some.inj e
      exact this ▸ h⟩
  | _, _, i + 1, x, .cons _ hs, e => by
    have e' := e
    simp only [List.getElem?_cons_succ] at e' ⊢
    exact hs.getV e'

/-! ### the box of draws -/
structure BoxI (x y z : Int) : Prop where
  x0 : 0 ≤ x
  y1 : 1 ≤ y
  y2 : y ≤ 2147483629
def boxL (x y z : Int) : List V := [.int x, .int y, .int z]
def Box (H : Hp) (b : Addr) : Prop := ∃ x y z, H b = some (.lst (boxL x y z)) ∧ BoxI x y z
/-- all but the list at b is as it was -/
def But (b : Addr) (H H' : Hp) : Prop := ∀ a o, a ≠ b → H a = some o → H' a = some o
theorem But.refl (b : Addr) (H : Hp) : But b H H := fun _ _ _ h => h
theorem But.trans {b : Addr} {H H1 H2 : Hp} (x : But b H H1) (y : But b H1 H2) : But b H H2 := fun a o n h => y a o n (x a o n h)
theorem But.of_same {b : Addr} {H H' : Hp} (s : Same H H') : But b H H' := fun a o _ h => s a o h
theorem But.upd {b : Addr} {H H' : Hp} {o : HO} (s : But b H H') : But b H (upd H' b o) := fun a u n h => by
  rw [upd_ne n]
  exact s a u n h
theorem Box.same {b : Addr} {H H' : Hp} (x : Box H b) (s : Same H H') : Box H' b := by
  obtain ⟨x, y, z, h, i⟩ := x
  exact ⟨x, y, z, s _ _ h, i⟩
theorem Box.fz {b : Addr} {H H' : Hp} (x : Box H b) (s : But b H H') : Fz H H' := fun a o f h => by
  refine s a o ?_ h
  rintro rfl
  obtain ⟨x, y, z, h', i⟩ := x
  rw [h'] at h
  cases h
  exact f
theorem Box.ne_none {b p : Addr} {H : Hp} (x : Box H b) (h : H p = none) : p ≠ b := by
  rintro rfl
  obtain ⟨x, y, z, h', i⟩ := x
  rw [h] at h'
  cases h'
theorem ifB {b : Bool} {A B : Prop} (h1 : b = true → A) (h2 : b = false → B) : if b = true then A else B := by
  cases b with
  | true => rw [if_pos rfl]; exact h1 rfl
  | false => rw [if_neg Bool.false_ne_true]; exact h2 rfl
theorem ifD {c A B : Prop} [Decidable c] (h1 : c → A) (h2 : ¬ c → B) : if decide c = true then A else B := ifB (fun e => h1 (of_decide_eq_true e)) (fun e => h2 (of_decide_eq_false e))
theorem ifN {c A B : Prop} [Decidable c] (h1 : ¬ c → A) (h2 : c → B) : if (!decide c) = true then A else B := by
  by_cases h : c
  · rw [decide_eq_true h]; exact h2 h
  · rw [decide_eq_false h]; exact h1 h
theorem ifT {b : Bool} {A B : Prop} (e : b = true) (h1 : A) : if b = true then A else B := by rw [if_pos e]; exact h1
theorem ifF {b : Bool} {A B : Prop} (e : b = false) (h1 : B) : if b = true then A else B := by rw [e, if_neg Bool.false_ne_true]; exact h1
theorem szL {n : Nat} (h : n ≤ 1000) : n ≤ sizeLine := Nat.le_trans h (by decide)
theorem szl {n : Nat} (h : n ≤ 1000) : n < sizeLine := Nat.lt_of_le_of_lt h (by decide)
theorem atI_ok {xs : List V} {i : Int} {j : Nat} {v : V} (h0 : 0 ≤ i) (e : i.toNat = j) (h : xs[j]? = some v) : atI xs i = some v := at_of (by omega) h
theorem ints_at {ns : List Int} {k : Int} (h0 : 0 ≤ k) (h1 : k < ns.length) : ∃ z, atI (ns.map V.int) k = some (.int z) := by
  have h2 : k.toNat < ns.length := by omega
  exact ⟨ns[k.toNat], atI_ok h0 rfl (by rw [List.getElem?_map, List.getElem?_eq_getElem h2]; rfl)⟩
theorem range_succ_map {α : Type} (f : Nat → α) (i : Nat) : (List.range (i + 1)).map f = (List.range i).map f ++ [f i] := by
  rw [List.range_succ, List.map_append]; rfl
theorem DtAll.snoc {K : PySem.W.Frag} {H : Hp} {v : List V} {d : List PyData} {x : V} {y : PyData} (h : DtAll K H v d) (k : Dt K H x y) : DtAll K H (v ++ [x]) (d ++ [y]) := h.append (.cons k .nil)
theorem same_lst {H H' : Hp} {p : Addr} {o : HO} (s : Same H H') (n : H p = none) : Same H (upd H' p o) := fun a u e => by
  rw [upd_ne (ne_of_none e n)]
  exact s a u e
theorem natAbs_abs {i : Int} : 0 ≤ (if i < 0 then -i else i) := by split <;> omega
theorem pick2 (b : Bool) (u v : Int) : atI [.int u, .int v] (if b = true then 1 else 0) = some (V.int (if b = true then v else u)) := by
  cases b <;> rfl
theorem ite_ge0 {b : Bool} {u v : Int} (h1 : 0 ≤ u) (h2 : 0 ≤ v) : 0 ≤ (if b = true then v else u) := by cases b <;> assumption
theorem mem_at {xs : List V} {k : Int} (h0 : 0 ≤ k) (h1 : k < xs.length) : ∃ v, v ∈ xs ∧ atI xs k = some v := by
  have h2 : k.toNat < xs.length := by omega
  exact ⟨xs[k.toNat], List.getElem_mem h2, atI_ok h0 rfl (List.getElem?_eq_getElem h2)⟩
/-! reading tuples of data -/
def atD (ds : List PyData) (i : Int) : Option PyData := (ixN ds.length i).bind fun j => ds[j]?
theorem DtAll.at {K : PySem.W.Frag} {H : Hp} {xs : List V} {ds : List PyData} {i : Int} {d : PyData} (h : DtAll K H xs ds) (e : atD ds i = some d) : ∃ v, atI xs i = some v ∧ Dt K H v d := by
  unfold atD at e
  unfold atI
  rw [h.length]
  cases q : ixN ds.length i with
  | none => rw [q] at e; cases e
  | some j =>
    rw [q] at e
    exact h.get e
theorem rix_dt {K : PySem.W.Frag} {H : Hp} {v : V} {i : Int} {ds : List PyData} {d : PyData} {Q : VK} (h : Dt K H v (.tuple ds)) (e : atD ds i = some d) (q : ∀ y, Dt K H y d → Q y H) : rIxT K v (.int i) H Q := by
  cases h with
  | tup hs ha =>
    obtain ⟨y, h1, h2⟩ := ha.at e
    exact ⟨_, _, _, _, rfl, rfl, hs, h1, q y h2⟩
theorem Dt.int_eq {K : PySem.W.Frag} {H : Hp} {v : V} {i : Int} (h : Dt K H v (.int i)) : v = .int i := by cases h; rfl
theorem Dt.str_eq {K : PySem.W.Frag} {H : Hp} {v : V} {i : Str} (h : Dt K H v (.str i)) : v = .str i := by cases h; rfl
theorem atD_nat {ds : List PyData} {j : Nat} {d : PyData} (e : ds[j]? = some d) : atD ds ((j : Nat) : Int) = some d := by
  have h := (List.getElem?_eq_some_iff.mp e).1
  unfold atD ixN
  rw [if_pos (by omega), if_pos (by omega)]
  exact e
theorem atD_last {ds : List PyData} {d : PyData} (h : 0 < ds.length) (e : ds[ds.length - 1]? = some d) : atD ds (-1) = some d := by
  unfold atD ixN
  rw [if_neg (by omega), if_pos (by omega)]
  show ds[((-1 : Int) + ds.length).toNat]? = some d
  rw [show ((-1 : Int) + ds.length).toNat = ds.length - 1 by omega]
  exact e
def tyD : PyData → String
  | .none => "NoneType"
  | .bool _ => "bool"
  | .int _ => "int"
  | .str _ => "str"
  | .list _ => "list"
  | .tuple _ => "tuple"
  | .dict _ => "dict"
theorem sqT_ty {K : PySem.W.Frag} {H : Hp} {a : Addr} {xs : List V} (h : SqT K H a xs) : TyX K H (.ref a) (.type "tuple") := by
  rcases h with (h | ⟨o, h⟩) | ⟨o, its, n, h1, h2, _⟩
  · exact .base (.tup h)
  · exact .fTuple h
  · exact .kTuple h1 h2
theorem Dt.ty {K : PySem.W.Frag} {H : Hp} {v : V} {d : PyData} (h : Dt K H v d) : TyX K H v (.type (tyD d)) := by
  cases h with
  | non => exact .base .non
  | bl b => exact .base (.bl b)
  | int i => exact .base (.int i)
  | str x => exact .base (.str x)
  | tup h _ => exact sqT_ty h
theorem neF {a b : Int} (h : a = b) : (!decide (V.int a = V.int b)) = false := by rw [h]; simp
theorem Dt.len {K : PySem.W.Frag} {H : Hp} {a : Addr} {ds : List PyData} (h : Dt K H (.ref a) (.tuple ds)) : ∃ xs, SqT K H a xs ∧ xs.length = ds.length ∧ DtAll K H xs ds := by
  cases h with
  | tup h hs => exact ⟨_, h, hs.length, hs⟩

structure okD (k : Nat) (d : PyData) : Prop where
  lay : d.canLay0 = true
  dep : d.depth ≤ k
theorem okD.mono {k l : Nat} {d : PyData} (h : okD k d) (e : k ≤ l) : okD l d := ⟨h.lay, Nat.le_trans h.dep e⟩
theorem okD_all {k : Nat} : ∀ {ds : List PyData}, (∀ d ∈ ds, okD k d) → PyData.canLayAll0 ds = true ∧ PyData.depthAll ds ≤ k
  | [], _ => ⟨rfl, Nat.zero_le _⟩
  | d :: ds, h => by
    have h1 := h d List.mem_cons_self
    have h2 := okD_all (ds := ds) fun x hx => h x (List.mem_cons_of_mem _ hx)
    refine ⟨?_, ?_⟩
    · show (PyData.canLay0 d && PyData.canLayAll0 ds) = true
      rw [h1.lay, h2.1]; rfl
    · show max (PyData.depth d) (PyData.depthAll ds) ≤ k
      exact Nat.max_le.mpr ⟨h1.dep, h2.2⟩
theorem okD.tuple {k : Nat} {ds : List PyData} (h : ∀ d ∈ ds, okD k d) : okD (k + 1) (.tuple ds) :=
  have q := okD_all h
  ⟨q.1, Nat.succ_le_succ q.2⟩
theorem okD.list {k : Nat} {ds : List PyData} (h : ∀ d ∈ ds, okD k d) : okD (k + 1) (.list ds) :=
  have q := okD_all h
  ⟨q.1, Nat.succ_le_succ q.2⟩
theorem okD.shaped {k : Nat} {d : PyData} (h : okD k d) (hk : k ≤ 64) : SeqAt.shaped d = true := by
  unfold SeqAt.shaped
  rw [h.lay, decide_eq_true (Nat.le_trans h.dep hk)]; rfl
theorem eqv_self {k : Nat} {d : PyData} (h : okD k d) : PyData.eqv d d = true := SeqAt.eqv_refl d h.lay
theorem rne_dt {K : PySem.W.Frag} {H : Hp} {x y : V} {k : Nat} {d : PyData} {Q : VK} (hx : Dt K H x d) (hy : Dt K H y d) (o : okD k d) (hk : k ≤ 64) (q : Q (.bl false) H) : rNeD K x y H Q :=
  ⟨d, d, hx.dp, hy.dp, o.shaped hk, o.shaped hk, by rw [eqv_self o]; exact q⟩
theorem req_dt {K : PySem.W.Frag} {H : Hp} {x y : V} {k : Nat} {d : PyData} {Q : VK} (hx : Dt K H x d) (hy : Dt K H y d) (o : okD k d) (hk : k ≤ 64) (q : Q (.bl true) H) : rEqD K x y H Q :=
  ⟨d, d, hx.dp, hy.dp, o.shaped hk, o.shaped hk, by rw [eqv_self o]; exact q⟩

theorem atD0 {ds : List PyData} {d : PyData} (e : ds[0]? = some d) : atD ds 0 = some d := atD_nat (j := 0) e
theorem atD1 {ds : List PyData} {d : PyData} (e : ds[1]? = some d) : atD ds 1 = some d := atD_nat (j := 1) e
theorem atD2 {ds : List PyData} {d : PyData} (e : ds[2]? = some d) : atD ds 2 = some d := atD_nat (j := 2) e
theorem atD3 {ds : List PyData} {d : PyData} (e : ds[3]? = some d) : atD ds 3 = some d := atD_nat (j := 3) e
theorem atDi {ds : List PyData} {d : PyData} {i : Int} {j : Nat} (h : i = (j : Int)) (e : ds[j]? = some d) : atD ds i = some d := by
  subst h
  exact atD_nat e

theorem floor_step {a b n : Int} (h : 0 < n) : b / n ≤ (a + b) / n - a / n ∧ (a + b) / n - a / n ≤ b / n + 1 := by
  have ha := Int.emod_add_mul_ediv a n
  have hb := Int.emod_add_mul_ediv b n
  have a0 := Int.emod_nonneg a (show n ≠ 0 by omega)
  have a1 := Int.emod_lt_of_pos a h
  have b0 := Int.emod_nonneg b (show n ≠ 0 by omega)
  have b1 := Int.emod_lt_of_pos b h
  have e : (a + b) / n = a / n + b / n + (a % n + b % n) / n := by
    have : a + b = (a % n + b % n) + n * (a / n + b / n) := by rw [Int.mul_add]; omega
    rw [this, Int.add_mul_ediv_left _ _ (by omega), Int.add_comm]
  have q0 : 0 ≤ (a % n + b % n) / n := Int.ediv_nonneg (by omega) (by omega)
  have q1 : (a % n + b % n) / n < 2 := by
    apply Int.ediv_lt_of_lt_mul h
    omega
  omega

theorem take_snoc {α : Type} {l : List α} {i : Nat} {x : α} (h : l[i]? = some x) : l.take (i + 1) = l.take i ++ [x] := by
  rw [List.take_add_one, h]; rfl
theorem map_int_get {acc : List Int} {i : Nat} {x : V} (h : (acc.map V.int)[i]? = some x) : ∃ z, acc[i]? = some z ∧ x = .int z := by
  rw [List.getElem?_map] at h
  cases e : acc[i]? with
  | none => rw [e] at h; cases h
  | some z =>
    rw [e] at h
    exact ⟨z, rfl, (Option.some.inj h).symm⟩

theorem Dt.ix {K : PySem.W.Frag} {H : Hp} {v : V} {i : Int} {ds : List PyData} {d : PyData} (h : Dt K H v (.tuple ds)) (e : atD ds i = some d) : ∃ a xs y, v = .ref a ∧ SqT K H a xs ∧ atI xs i = some y ∧ Dt K H y d := by
  cases h with
  | tup hs ha =>
    obtain ⟨y, h1, h2⟩ := ha.at e
    exact ⟨_, _, _, rfl, hs, h1, h2⟩

/-! displays of data -/
def EvD (K : PySem.W.Frag) (te : TE) (σ : L2.St) (H : Hp) (d : PyData) : Prop := ∀ Q : VK, (∀ v H', Same H H' → Dt K H' v d → Q v H') → te σ H Q
def EvDs (K : PySem.W.Frag) (ta : TA) (σ : L2.St) (H : Hp) (ds : List PyData) : Prop := ∀ Q : List V → Hp → Prop, (∀ vs H', Same H H' → DtAll K H' vs ds → Q vs H') → ta σ H Q
section
variable {K : PySem.W.Frag} {σ : L2.St} {H : Hp}
theorem evd_int {i : Int} : EvD K (tC (.int i)) σ H (.int i) := fun _ q => q _ _ (Same.refl _) (.int i)
theorem evd_str {i : Str} : EvD K (tC (.str i)) σ H (.str i) := fun _ q => q _ _ (Same.refl _) (.str i)
theorem evd_non : EvD K (tC .non) σ H .none := fun _ q => q _ _ (Same.refl _) .non
theorem evd_bl {b : Bool} : EvD K (tC (.bl b)) σ H (.bool b) := fun _ q => q _ _ (Same.refl _) (.bl b)
theorem evd_nil : EvDs K tNil σ H [] := fun _ q => q _ _ (Same.refl _) .nil
theorem evd_cons {te : TE} {ta : TA} {d : PyData} {ds : List PyData} (h : EvD K te σ H d) (hr : ∀ H', EvDs K ta σ H' ds) : EvDs K (tCons te ta) σ H (d :: ds) := fun Q q =>
  h _ fun v H1 s1 d1 => hr H1 _ fun vs H2 s2 d2 => q _ _ (s1.trans s2) (.cons (d1.mono (Fz.of_same s2)) d2)
theorem evd_tup {ta : TA} {ds : List PyData} (h : EvDs K ta σ H ds) (hl : ds.length ≤ 1000) : EvD K (tTup ta) σ H (.tuple ds) := fun Q q =>
  h _ fun vs H1 s1 d1 => ⟨szL (by rw [d1.length]; exact hl), fun p hp => q _ _ (s1.trans (same_new hp)) (.tup (SqT.of upd_same) (d1.mono (Fz.new hp)))⟩
end
theorem same_but {b : Addr} {H H1 H2 : Hp} (s : Same H H1) (k : But b H1 H2) (n : H b = none) : Same H H2 := fun a o h => k a o (ne_of_none h n) (s a o h)

theorem rel_ref (a : Addr) : RelV (.ref a) (Value.ref a) := rfl
end Rs
/-! Own exceptions with a field; objects made within a try. -/
namespace Rs
open PySem PySem.Spec PyProof.Rows L2
/-! ### C(e, ..) where what its __init__ lets out is wished for at the caller's slots -/
section
variable {X : Cx} {CX : CXT} {k : Nat} {f C : Addr} {fd : FuncData} {ps : List Str} {sp : Sp} {E : L2.St → XK} {x : Str} {p pos : Pos} {e : Expr} {es : List Expr} {t : TA}
theorem run_makeS {pins : List (Addr × Obj)} {σ : L2.St} {H : Hp} {s : Shared} {Q : VK} {us : List Value} {vs : List V} (M : Mk X.K C f) (F : FnOk X.prog X.w X.K X.mg X.base CX k f fd ps sp) (hr : Room (k + 1) X.A) (hb : Binds X.K fd ps [])
    (hx : PassesAt CX X σ (E σ)) (I : Inv X pins σ H s) (r : Vals vs us)
    (pre : ∀ x dx, H x = none → H dx = none → dx ≠ x → sp (.ref x :: vs) (upd (upd H dx (.own x)) x (.ins C dx [])) (fun v H2 => v = .non ∧ Q (.ref x) H2) (E σ))
    (out : ∀ H1 s1 e s2, Inv X pins σ H1 s1 → L2.CX X.prog X.w X.stack H1 s1 (E σ) e s2 → X.xe e s2) (hCX : CX = L2.CX X.prog X.w) :
    wpAny (model X.prog X.w) X.A (call (.ref C) us) (EP X pins σ Q) X.xe s := by
  subst hCX
  have p0 := pre (s.heap.objs.size + 1) s.heap.objs.size (I.hok.fresh (Nat.le_succ _)) (I.hok.fresh (Nat.le_refl _)) (Nat.ne_of_lt (Nat.lt_succ_self _))
  have J := Inv.made (C := C) I
  have rel : Vals (V.ref (s.heap.objs.size + 1) :: vs) (Value.ref (s.heap.objs.size + 1) :: us) := .cons rfl r
  have n1 : (Value.ref (s.heap.objs.size + 1) :: us).length = ps.length := by rw [← rel.length]; exact F.len _ _ _ _ p0
  have bd := hb _ (Value.ref (s.heap.objs.size + 1) :: us) J.kIn (by rw [List.append_nil]; exact n1)
  rw [List.append_nil] at bd
  have ran := F.run _ X.stack _ _ ⟨Value.ref (s.heap.objs.size + 1) :: us, []⟩ _ _ _ (E σ) (hr.make C us []) (J.env0.make C us []) bd rel p0
  refine wpAny_call (make_map (f := f) I.kIn M.makes M.init (beq_iff_eq.mp M.fn) (codeAny_mono ran fun r s' got => ?_))
  cases r with
  | error e => exact out _ _ _ _ J got
  | ok fl =>
    cases fl with
    | next => exact got.elim
    | brk => exact got.elim
    | cont => exact got.elim
    | ret u =>
      obtain ⟨v, H', J2, rv, rfl, q⟩ := J.after got
      exact ⟨rv, .ref (s.heap.objs.size + 1), H', J2, rfl, q⟩
def tMakeS (C : Addr) (sp : Sp) (E : L2.St → XK) (t : TA) : TE := fun σ H Q => t σ H fun vs H1 => ∀ x dx, H1 x = none → H1 dx = none → dx ≠ x →
  sp (.ref x :: vs) (upd (upd H1 dx (.own x)) x (.ins C dx [])) (fun v H2 => v = .non ∧ Q (.ref x) H2) (E σ)
theorem pe_makeS {W : WX} (M : Mk X.K C f) (F : FnOk X.prog X.w X.K X.mg X.base (L2.CX X.prog X.w) k f fd ps sp) (hr : Room (k + 1) X.A) (hg : Gl X x) (hm : X.mg x = some (.ref C)) (hb : Binds X.K fd ps []) (tk : Takes X W)
    (ha : PA X (e :: es) t) (hdb : (x == ("__debug__" : Str)) = false := by decide) (he : starEach (e :: es) X.env = (false, eval e X.env) :: starEach es X.env := by rfl) (hpl : (backTo pos (starEach es X.env)).any (·.1) = false := by rfl) :
    PE X (.Call (.Name x p) (e :: es) [] pos) (tMakeS C sp (WE W) t) := by
  refine ⟨fun pins s σ H Q I h => wpAny_Call_Name_kw (ld_glob I hg hm ?_ hdb)⟩
  refine PySem.W.callWith_K (h₀ := X.base) I.ok.mod.kin M.kp (thn (ha.run pos pins s σ H _ I h) fun us s1 res => ?_) he hpl
  obtain ⟨vs, H1, I1, r, q⟩ := res
  exact ⟨I1.kIn, run_makeS M F hr hb (passAt tk σ) I1 r q (fun H1 s1 e s2 J c => tk e s2 (XE.of_call J (fun _ _ _ h => h) c)) rfl⟩
end
/-! ### isinstance of a caught exception that has a field -/
structure ExX (K : PySem.W.Frag) (C : Addr) : Prop where
  cl : (PySem.W.clsIn K C).isSome = true
  ga : PySem.W.findIn K (.ref C) "__getattribute__" = some (some (.builtin "BaseException.__getattribute__"))
  gg : PySem.W.findIn K (.ref C) "__getattr__" = some none
  sb : PySem.W.subIn K (.ref C) (.type "BaseException") = some true
  ca : PySem.W.findIn K (.ref C) "__class__" = some (some (.builtin "object.__class__"))
  sp : PySem.W.specialIn K (.builtin "object.__class__") "__get__" = some (some (.builtin "getset_descriptor.__get__"))
  tk : PySem.W.takesIn K (.builtin "object.__class__") = some true
  mo : PySem.W.mroIn K C (.type "object") = some true
section
variable {X : Cx} {pins : List (Addr × Obj)} {σ : L2.St} {H : Hp} {s : Shared} {a C : Addr} {oe : Obj} {cls : Value} {d : Option Addr} {pn : List (Addr × Obj)}
theorem caught_at (I : Inv (X.suite a ((a, oe) :: pn)) pins σ H s) (hz : Zc cls d oe) (hf : ∃ vs, oe.data = .fields vs) {dd : Addr} {fs : List (Str × V)} (ec : cls = .ref C) (ed : d = some dd) (hd : H dd = some (.xd fs)) :
    ∃ od, PySem.W.InstAt s.heap a oe C (some od) := by
  subst ec ed
  obtain ⟨here, _⟩ := I.pin (a, oe) (List.mem_append_left _ List.mem_cons_self)
  obtain ⟨vs, hv⟩ := hf
  obtain ⟨mA, ns, _⟩ := (show ObjOk X.prog X.w H s.heap dd (.xd fs) from I.hok dd _ hd)
  obtain ⟨od, ho, _⟩ := lookIn_ns ns
  exact ⟨od, here, hz.1, by unfold PySem.W.notCls; rw [hv] <;> rfl, by rw [hz.2]; exact ho⟩
def rIsX (K : PySem.W.Frag) (a : Addr) (cls : Value) (d : Option Addr) (C : Addr) : List V → Hp → VK → Prop := fun xs H Q => ∃ (c : V) (cv : Value) (b : Bool) (dd : Addr) (fs : List (Str × V)), xs = [.ref a, c] ∧ ClsV c cv ∧ cls = .ref C ∧ d = some dd ∧ H dd = some (.xd fs) ∧ PySem.W.kitOne K (.ref C) cv = some b ∧ Q (.bl b) H
theorem call_isX (T : ExX X.K C) (hz : Zc cls d oe) (hf : ∃ vs, oe.data = .fields vs) : CallR (X.suite a ((a, oe) :: pn)) (.builtin "isinstance") (rIsX X.K a cls d C) := by
  intro pins s σ H xs us Q I r h
  obtain ⟨c, cv, b, dd, fs, rfl, kc, ec, ed, hd, e, q⟩ := h
  obtain ⟨u1, u2, rfl, r1, r2⟩ := vals2 r
  obtain rfl := kc.eq r2
  cases (show u1 = Value.ref a from r1)
  obtain ⟨od, J⟩ := caught_at I hz hf ec ed hd
  exact PySem.W.kia_one (PySem.W.kitx_exc T.cl T.ga T.gg T.sb T.ca T.sp T.tk T.mo) I.kIn J e (fun z => nomatch z) fun tk => ⟨.bl b, H, I.tok tk, rfl, q⟩
def rIsXT (K : PySem.W.Frag) (a : Addr) (cls : Value) (d : Option Addr) (C : Addr) : List V → Hp → VK → Prop := fun xs H Q => ∃ (tp : Addr) (cs : List V) (ws : List Value) (b : Bool) (dd : Addr) (fs : List (Str × V)), xs = [.ref a, .ref tp] ∧ H tp = some (.tup cs) ∧ Paired ClsV cs ws ∧
  cls = .ref C ∧ d = some dd ∧ H dd = some (.xd fs) ∧ PySem.W.kitAny K (.ref C) ws = some b ∧ Q (.bl b) H
theorem call_isXT (T : ExX X.K C) (hz : Zc cls d oe) (hf : ∃ vs, oe.data = .fields vs) : CallR (X.suite a ((a, oe) :: pn)) (.builtin "isinstance") (rIsXT X.K a cls d C) := by
  intro pins s σ H xs us Q I r h
  obtain ⟨tp, cs, ws, b, dd, fs, rfl, hT, kc, ec, ed, hd, e, q⟩ := h
  obtain ⟨u1, u2, rfl, r1, r2⟩ := vals2 r
  cases (show u1 = Value.ref a from r1)
  cases (show u2 = Value.ref tp from r2)
  obtain ⟨od, J⟩ := caught_at I hz hf ec ed hd
  obtain ⟨_, its, rv, o, h1, h2, n, h3⟩ := (show ObjOk X.prog X.w H s.heap tp (.tup cs) from I.hok tp _ hT)
  obtain rfl := ClsV.all kc rv
  obtain ⟨oc, od', dt, sl⟩ := o
  simp only at h2 h3
  subst h2 h3
  exact PySem.W.kia_tup (PySem.W.kitx_exc T.cl T.ga T.gg T.sb T.ca T.sp T.tk T.mo) I.kIn J h1 e (fun z => nomatch z) fun tk => ⟨.bl b, H, I.tok tk, rfl, q⟩
end
/-! ### the promise of an __init__(self, word): self.word = word -/
def spExc (C : Addr) (f : Str) : Sp := fun vs H Q _ => ∃ (a : Addr) (v : V), vs = [.ref a, v] ∧ H a = some (exo a C none) ∧ ∀ dx, H dx = none → dx ≠ a → Q .non (upd (upd H dx (exd dx [(f, v)])) a (exo a C (some dx)))
/-- the heap behind an exception's making -/
theorem made_heap {H : Hp} {a dx : Addr} {o1 o2 o3 o : HO} (ha : H a = none) (ne : dx ≠ a) : upd (del (upd (upd (upd H a o1) dx o2) a o3) a) dx o = upd H dx o := by
  funext b
  by_cases h1 : b = dx
  · subst h1; rw [upd_same, upd_same]
  · rw [upd_ne h1, upd_ne h1]
    by_cases h2 : b = a
    · subst h2; rw [del_same, ha]
    · rw [del_ne h2, upd_ne h2, upd_ne h1, upd_ne h2]
/-- what C(v) asks, where C's __init__ keeps spExc: its dict is new, the rest as it was -/
theorem make_exc {C : Addr} {f : Str} {v : V} {σ : L2.St} {H : Hp} {Q : XK} (h : ∀ d, H d = none → Q (.ref C) (some d) (upd H d (.xd [(f, v)]))) : tMkO C (spExc C f) [] (tCons (tC v) tNil) σ H Q := by
  refine ⟨by show 1 ≤ 1000; decide, fun a ha => ⟨a, v, rfl, upd_same, fun dx hdx ne => ⟨rfl, dx, [(f, v)], upd_same, by rw [upd_ne ne, upd_same], ?_, ?_⟩⟩⟩
  · rw [upd_ne ne] at hdx
    exact hdx
  · rw [made_heap ha ne]
    exact h dx (by rw [upd_ne ne] at hdx; exact hdx)
end Rs
/-! Values of any kind, told by their outermost shape. -/
namespace Rs
open PySem PySem.Spec PyProof.Rows L2
def Sh (b : Addr) (H : Hp) : V → Prop
  | .non => True
  | .bl _ => True
  | .int _ => True
  | .str _ => True
  | .ref a => a ≠ b ∧ ((∃ xs, H a = some (.lst xs)) ∨ ∃ xs, H a = some (.tup xs))
  | _ => False
theorem Sh.but {b : Addr} {H H' : Hp} {v : V} (h : Sh b H v) (k : But b H H') : Sh b H' v := by
  cases v with
  | ref a =>
    obtain ⟨ne, ⟨xs, e⟩ | ⟨xs, e⟩⟩ := h
    · exact ⟨ne, .inl ⟨xs, k a _ ne e⟩⟩
    · exact ⟨ne, .inr ⟨xs, k a _ ne e⟩⟩
  | non => trivial
  | bl _ => trivial
  | int _ => trivial
  | str _ => trivial
  | byt _ => exact h
  | flt _ => exact h
  | ty _ => exact h
def isInt : V → Bool
  | .int _ => true
  | _ => false
def isBl : V → Bool
  | .bl _ => true
  | _ => false
theorem Sh.ty {K : PySem.W.Frag} {b : Addr} {H : Hp} {v : V} (h : Sh b H v) : ∃ t, TyX K H v (.type t) ∧ kitB t "int" = some (isInt v || isBl v) ∧ kitB t "bool" = some (isBl v) := by
  cases v with
  | non => exact ⟨"NoneType", .base .non, by decide +kernel, by decide +kernel⟩
  | bl x => exact ⟨"bool", .base (.bl x), (by decide +kernel : kitB "bool" "int" = some true), (by decide +kernel : kitB "bool" "bool" = some true)⟩
  | int x => exact ⟨"int", .base (.int x), (by decide +kernel : kitB "int" "int" = some true), (by decide +kernel : kitB "int" "bool" = some false)⟩
  | str x => exact ⟨"str", .base (.str x), (by decide +kernel : kitB "str" "int" = some false), (by decide +kernel : kitB "str" "bool" = some false)⟩
  | ref a =>
    obtain ⟨ne, ⟨xs, e⟩ | ⟨xs, e⟩⟩ := h
    · exact ⟨"list", .base (.lst e), (by decide +kernel : kitB "list" "int" = some false), (by decide +kernel : kitB "list" "bool" = some false)⟩
    · exact ⟨"tuple", .base (.tup e), (by decide +kernel : kitB "tuple" "int" = some false), (by decide +kernel : kitB "tuple" "bool" = some false)⟩
  | byt _ => exact h.elim
  | flt _ => exact h.elim
  | ty _ => exact h.elim
/-- whether a value is an integer that is no bool -/
def spWhole : Sp := fun vs H Q _ => ∃ (b : Addr) (v : V), vs = [v] ∧ Sh b H v ∧ Q (.bl (isInt v)) H
theorem isInt_bl {v : V} : (isInt v || isBl v) = true → (!isBl v) = isInt v := by cases v <;> simp [isInt, isBl]
theorem isInt_no {v : V} : (isInt v || isBl v) = false → false = isInt v := by cases v <;> simp [isInt, isBl]
/-- repr of None and of a text -/
def reprV : V → Str
  | .str x => reprText x
  | _ => "None"
theorem call_repr1 {X : Cx} : CallR X (.builtin "repr") (fun xs H Q => ∃ v, xs = [v] ∧ (v = .non ∨ ∃ x : Str, v = .str x ∧ (reprText x).length ≤ sizeLine) ∧ Q (.str (reprV v)) H) := by
  intro pins s σ H xs us Q I r h
  obtain ⟨v, rfl, rfl | ⟨x, rfl, ln⟩, q⟩ := h
  · obtain ⟨u, rfl, ru⟩ := vals1 r
    obtain rfl : u = Value.none := ru
    exact PySem.P.repr_of_none ⟨.str _, H, I.tok _, ⟨_, rfl⟩, q⟩
  · obtain ⟨u, rfl, t, rfl⟩ := vals1 r
    exact PySem.P.repr_of_str ⟨.str _, H, I.tok _, ⟨_, rfl⟩, q⟩ ln
theorem but_new {b D : Addr} {H H' : Hp} {o : HO} (k : But b H H') (n : H D = none) : But b H (upd H' D o) := fun a u ne e => by
  rw [upd_ne (ne_of_none e n)]
  exact k a u ne e
theorem box_ne {b D : Addr} {H : Hp} {o : HO} (B : Box H b) (ne : D ≠ b) : Box (upd H D o) b := by
  obtain ⟨x, y, z, h, i⟩ := B
  exact ⟨x, y, z, by rw [upd_ne ne.symm]; exact h, i⟩

theorem look1 {f : Str} {v : V} : List.lookup f [(f, v)] = some v := by simp [List.lookup]
theorem Sh.set {b t : Addr} {H : Hp} {v : V} {xs ys : List V} (h : Sh b H v) (e : H t = some (.lst xs)) : Sh b (upd H t (.lst ys)) v := by
  cases v with
  | ref a =>
    obtain ⟨ne, q⟩ := h
    refine ⟨ne, ?_⟩
    by_cases c : a = t
    · subst c
      exact .inl ⟨_, upd_same⟩
    · rw [upd_ne c]
      exact q
  | non => trivial
  | bl _ => trivial
  | int _ => trivial
  | str _ => trivial
  | byt _ => exact h
  | flt _ => exact h
  | ty _ => exact h
end Rs
/-! == and != by an own __eq__, with either answer, of anything. -/
namespace Rs
open PySem PySem.Spec PyProof.Rows L2
/-- what of the class at C: its own __eq__ is g, its != is object's -/
structure OwnQ (K : PySem.W.Frag) (C g : Addr) : Prop where
  eq : PySem.W.findIn K (.ref C) "__eq__" = some (some (.ref g))
  fn : PySem.W.isFn K (.ref g) = true
  ne : PySem.W.findIn K (.ref C) "__ne__" = some (some (.builtin "object.__ne__"))
  mo : PySem.W.mroIn K C (.type "object") = some true
section
variable {M : Model} {prog : Program} {w : World} {A : Around} {E : Value → Shared → Prop} {s : Shared} {K : PySem.W.Frag} {x C f L : Addr} {ox : Obj} {od : Option Obj} {h₀ : Heap} {m : Str → Option Value} {b tb : Value}
theorem ifBound_objNe {args : List Value} {Q : Option Value → Shared → Prop} (X : K.In s.heap) (I : PySem.W.InstAt s.heap x ox C od) (hs : PySem.W.findIn K (.ref C) "__ne__" = some (some (.builtin "object.__ne__")))
    (h : wpAny M A (call (.builtin "object.__ne__") (.ref x :: args)) (fun v => Q (some v)) E s) : wpAny M A (callSpecialIfBound? (.ref x) "__ne__" args) Q E s := by
  simp only [callSpecialIfBound?, bindSpecialIfBound?]
  refine wpAny_holding (wpAny_bind (wpAny_bind (wpAny_bind (I.type.here ((PySem.W.looks_findIn X hs).here ?_)))))
  refine wpAny_bind (wpAny_askSetting (wpAny_ite ?_))
  have fin : wpAny M A (call (.builtin "object.__ne__") ([.ref x] ++ args) >>= fun v => pure (some v)) Q E s := wpAny_bind (wpAny_mono h (fun v s' h' => wpAny_pure h') fun _ _ h' => h')
  split
  · exact wpAny_bind (wpAny_of_eq (F.cmp_object.ne.bind _) (wpAny_pure (by exact fin)))
  · exact wpAny_tryCatch (wpAny_bind (wpAny_of_eq (F.cmp_object.ne.bind _) (wpAny_pure (by exact fin))))
theorem objNe_entry (hu : A.units < cLine) (X : K.In s.heap) (I : PySem.W.InstAt s.heap x ox C od) (O : OwnQ K C f) {Q : Fin → Shared → Prop}
    (hcall : wpAny (model prog w) A (call (.ref f) [.ref x, b]) (fun v s' => ∃ r, v = .bool r ∧ Q (.done (.ret (.bool (!r)))) s') E s) :
    wpAny (model prog w) A (Builtin.«object.__ne__» ⟨[.ref x, b], []⟩) Q E s := by
  unfold Builtin.«object.__ne__»
  repeat (first
    | with_reducible refine wpAny_cRoomFor hu ?_
    | (refine wpAny_bind (m := callSpecialIfBound? (.ref x) (Str.ofString "__eq__") [b])
        (PySem.W.ifBound_K X I O.eq O.fn (wpAny_mono hcall (fun v s' hr => by
          obtain ⟨r, rfl, hq⟩ := hr
          repeat (first | exact hq | exact wpAny_pure hq | exact wpAny_truthy_bool hq | (refine wpAny_bind (m := truthy (.bool _)) (wpAny_truthy_bool ?_)) | wp_step)) fun _ _ e => e)))
    | wp_step)
theorem tryCompare_neO (hu : A.units + 1 < cLine) (X : K.In s.heap) (I : PySem.W.InstAt s.heap x ox C od) (O : OwnQ K C f) {Q : Option Value → Shared → Prop}
    (hcall : wpAny (model prog w) A.in1 (call (.ref f) [.ref x, b]) (fun v s' => ∃ r, v = .bool r ∧ Q (some (.bool (!r))) s') E s) : wpAny (model prog w) A (tryCompare (.ref x) "__ne__" b) Q E s := by
  simp only [tryCompare]
  refine wpAny_bind (ifBound_objNe X I O.ne (wpAny_call (codeAny_call_builtin F.cmp_object.ne.plain F.cmpEntry_ne
    (PySem.W.check_slot F.cmpKind_ne F.cmpSplit_ne (I.type.andThen (PySem.W.looks_mroIn X O.mo)) (F.cmpArgs_ne _ _)
      (objNe_entry (A := A.in1) hu X I O (wpAny_mono hcall (fun v s' hv => ?_) fun _ _ e => e))))))
  obtain ⟨r, rfl, hq⟩ := hv
  first | exact ⟨r, rfl, wpAny_pure hq⟩ | exact ⟨r, rfl, wpAny_pure (wpAny_pure hq)⟩ | exact ⟨r, rfl, hq⟩
theorem rc_neO (hu : A.units + 1 < cLine) (X : K.In s.heap) (I : PySem.W.InstAt s.heap x ox C od) (O : OwnQ K C f) (hb : PySem.W.Looks (model prog w) s.heap (typeOf b) tb) (hn : PySem.W.notFirst K C tb = true) {Q : Value → Shared → Prop}
    (hcall : wpAny (model prog w) A.in1 (call (.ref f) [.ref x, b]) (fun v s' => ∃ r, v = .bool r ∧ Q (.bool (!r)) s') E s) : wpAny (model prog w) A (richCompare .NotEq (.ref x) b) Q E s := by
  have one : wpAny (model prog w) A (tryCompare (.ref x) "__ne__" b) (fun r s' => ∃ v, r = some v ∧ Q v s') E s := tryCompare_neO hu X I O (wpAny_mono hcall (fun v s' hv => by
    obtain ⟨r, rfl, hq⟩ := hv
    exact ⟨r, rfl, _, rfl, hq⟩) fun _ _ e => e)
  unfold richCompare
  simp only [oneThing_ref]
  refine wpAny_holding (wpAny_bind (wpAny_cRoomFor (Nat.lt_of_succ_lt hu) ?_))
  refine wpAny_bind (I.type.here (wpAny_bind (hb.here ?_)))
  split
  · rename_i q
    have e : PySem.W.subIn K tb (.ref C) = some false := by
      rcases Bool.or_eq_true_iff.mp hn with e | e
      · rw [beq_iff_eq.mp e] at q; simp at q
      · exact beq_iff_eq.mp e
    refine wpAny_bind ((PySem.W.looks_subIn X e).here ?_)
    simp only [Bool.false_eq_true, if_false]
    refine wpAny_bind (wpAny_mono one (fun r s' z => ?_) fun _ _ e => e)
    obtain ⟨v, rfl, hq⟩ := z
    exact wpAny_pure hq
  · refine wpAny_bind (wpAny_pure ?_)
    simp only [Bool.false_eq_true, if_false]
    refine wpAny_bind (wpAny_mono one (fun r s' z => ?_) fun _ _ e => e)
    obtain ⟨v, rfl, hq⟩ := z
    exact wpAny_pure hq
end
theorem notFirst_ty {K : PySem.W.Frag} {C : Addr} {T : String} {ns : List String} (e : fastBuiltinMro T = some (ns.map Value.type)) : PySem.W.notFirst K C (.type T) = true := by
  have : PySem.W.subIn K (.type T) (.ref C) = some false := by
    show (fastBuiltinMro T).map (·.contains (.ref C)) = some false
    rw [e]
    simp
  unfold PySem.W.notFirst
  rw [this]
  simp
theorem notFirst_self {K : PySem.W.Frag} {C : Addr} : PySem.W.notFirst K C (.ref C) = true := by simp [PySem.W.notFirst]
theorem nf_none {K : PySem.W.Frag} {C : Addr} : PySem.W.notFirst K C (.type "NoneType") = true := notFirst_ty (ns := ["NoneType", "object"]) (by decide +kernel)
theorem nf_bool {K : PySem.W.Frag} {C : Addr} : PySem.W.notFirst K C (.type "bool") = true := notFirst_ty (ns := ["bool", "int", "object"]) (by decide +kernel)
theorem nf_int {K : PySem.W.Frag} {C : Addr} : PySem.W.notFirst K C (.type "int") = true := notFirst_ty (ns := ["int", "object"]) (by decide +kernel)
theorem nf_str {K : PySem.W.Frag} {C : Addr} : PySem.W.notFirst K C (.type "str") = true := notFirst_ty (ns := ["str", "object"]) (by decide +kernel)
theorem nf_list {K : PySem.W.Frag} {C : Addr} : PySem.W.notFirst K C (.type "list") = true := notFirst_ty (ns := ["list", "object"]) (by decide +kernel)
theorem nf_tuple {K : PySem.W.Frag} {C : Addr} : PySem.W.notFirst K C (.type "tuple") = true := notFirst_ty (ns := ["tuple", "object"]) (by decide +kernel)
section
variable {X : Cx} {CX : CXT} {pins : List (Addr × Obj)} {σ : L2.St} {H : Hp} {s : Shared} {C g : Addr} {n : Nat} {sp : Sp} {E : XK} {x : V} {u t : Value}
theorem ty_looks {M : Model} (I : Inv X pins σ H s) (rx : RelV x u) (ty : TyX X.K H x t) : PySem.W.Looks M s.heap (typeOf u) t := by
  obtain ⟨P, Z, hp, _⟩ := kit_of I rx ty
  exact Z.ty _ _ I.kIn hp
theorem ins_at {a dx : Addr} {fs : List (Str × V)} (I : Inv X pins σ H s) (h : H a = some (.ins C dx fs)) : ∃ ox od, PySem.W.InstAt s.heap a ox C od := by
  obtain ⟨mA, J, _⟩ := ins_get I.hok h
  obtain ⟨od, J, _⟩ := J.look
  exact ⟨_, _, J⟩
/-- x == y, x an instance of the class at C with its own __eq__ -/
def rEqO (K : PySem.W.Frag) (C : Addr) (sp : Sp) (E : XK) : R2 := fun x y H Q => ∃ a dx fs tb, x = .ref a ∧ H a = some (.ins C dx fs) ∧ TyX K H y tb ∧ PySem.W.notFirst K C tb = true ∧ sp [x, y] H Q E
theorem op_eqO (O : OwnQ X.K C g) (F : FnR X.prog X.w X.K X.mg X.base CX n g sp) (hr : Room n X.A) (hx : Passes CX X E) : OpR X (compareOp .Eq) (rEqO X.K C sp E) := by
  intro pins s σ H x y v u Q I rx ry h
  obtain ⟨a, dx, fs, tb, rfl, ha, ty, hn, q⟩ := h
  cases (show v = Value.ref a from rx)
  obtain ⟨ox, od, J⟩ := ins_at I ha
  obtain ⟨m, hF⟩ := I.fr
  show wpAny (model X.prog X.w) X.A (richCompare .Eq (.ref a) u) (EP X pins σ Q) X.xe s
  refine PySem.W.cmp_K (op := .Eq) (tb := tb) hr.units0 hF I.ok.mod.kin J (ty_looks I ry ty) hn O.eq O.fn ?_
  refine wpAny_mono (wpAny_call (run_fnR (us := [.ref a, u]) (vs := [.ref a, y]) F hr hx I (.cons rfl (.cons ry .nil)) q)) (fun w s' z => ?_) fun _ _ x => x
  obtain ⟨z', H', I', rz, qz⟩ := z
  exact SlX.cmpback rz ⟨z', H', I', rz, qz⟩
/-- x != y -/
def rNeO (K : PySem.W.Frag) (C : Addr) (sp : Sp) (E : XK) : R2 := fun x y H Q => ∃ a dx fs tb, x = .ref a ∧ H a = some (.ins C dx fs) ∧ TyX K H y tb ∧ PySem.W.notFirst K C tb = true ∧ sp [x, y] H (fun z H' => ∃ r, z = .bl r ∧ Q (.bl (!r)) H') E
theorem op_neO (O : OwnQ X.K C g) (F : FnR X.prog X.w X.K X.mg X.base CX n g sp) (hr : Room (n + 1) X.A) (hx : Passes CX X E) : OpR X (compareOp .NotEq) (rNeO X.K C sp E) := by
  intro pins s σ H x y v u Q I rx ry h
  obtain ⟨a, dx, fs, tb, rfl, ha, ty, hn, q⟩ := h
  cases (show v = Value.ref a from rx)
  obtain ⟨ox, od, J⟩ := ins_at I ha
  show wpAny (model X.prog X.w) X.A (richCompare .NotEq (.ref a) u) (EP X pins σ Q) X.xe s
  have hr1 : Room n X.A.in1 := Room.in1 hr
  refine rc_neO (C := C) (f := g) (tb := tb) (by have := hr.un; omega) I.kIn J O (ty_looks I ry ty) hn ?_
  refine wpAny_mono (wpAny_call (SlX.run_at (us := [.ref a, u]) (ws := [.ref a, y]) F hr1 I.env0.in1 hx I (.cons rfl (.cons ry .nil)) q)) (fun w s' z => ?_) fun _ _ x => x
  obtain ⟨z', H', I', rz, r, ez, qz⟩ := z
  subst ez
  cases (show w = Value.bool r from rz)
  exact ⟨r, rfl, .bl (!r), H', I', rfl, qz⟩
end
end Rs
/-! A built-in value == an instance with an own __eq__; such an instance in a tuple. -/
namespace Rs
open PySem PySem.Spec PyProof.Rows PySem.SeqAt L2 SeqRoads2 MeetsSeq MeetsSeq2 MeetsSeq3
open AutoSeq1 (wpAny_loadPart')
section
variable {prog : Program} {w : World} {A : Around} {E : Value → Shared → Prop} {s : Shared} {K : PySem.W.Frag} {x C f : Addr} {ox : Obj} {od : Option Obj}
theorem rc_eqR {T id : String} {u : Value} {Q : Value → Shared → Prop} (hu : A.units < cLine) (X : K.In s.heap) (I : PySem.W.InstAt s.heap x ox C od) (O : OwnQ K C f) (hT : s.TypeIs u T) (S : Slot T "__eq__" id)
    (hm : PySem.W.mroIn K C (.type T) = some false) (decl : wpAny (model prog w) A (call (.builtin id) [u, .ref x]) (fun v s' => v = .notImplemented ∧ s' = s) E s)
    (h : wpAny (model prog w) A (call (.ref f) [.ref x, u]) (PySem.W.CmpBack Q) E s) : wpAny (model prog w) A (richCompare .Eq u (.ref x)) Q E s := by
  have one : wpAny (model prog w) A (tryCompare u "__eq__" (.ref x)) (fun r s' => r = none ∧ s' = s) E s :=
    wpAny_tryCompare_declines hT S (wpAny_mono decl (fun v s' z => ⟨z.1, rfl, z.2⟩) fun _ _ e => e)
  have two : wpAny (model prog w) A (tryCompare (.ref x) "__eq__" u) (fun r s' => ∃ v, r = some v ∧ Q v s') E s := by
    unfold tryCompare
    refine wpAny_bind (PySem.W.ifBound_K X I O.eq O.fn (wpAny_mono h (fun v s' hv => ?_) fun _ _ e => e))
    cases v <;> first | exact hv.elim | exact wpAny_pure ⟨_, rfl, hv⟩
  simp only [richCompare, cmpInfo_Eq, hT.oneThing_none]
  refine wpAny_holding (wpAny_bind (wpAny_cRoomFor hu ?_))
  refine wpAny_bind (wpAny_typeOf hT ?_)
  refine wpAny_bind (I.type.here ?_)
  split
  · refine wpAny_bind ((PySem.W.looks_subIn X (t := .ref C) (base := .type T) hm).here ?_)
    simp only [Bool.false_eq_true, if_false, Bool.not_false, if_true]
    refine wpAny_bind (m := tryCompare u _ (.ref x)) (wpAny_mono one (fun r s1 z => ?_) fun _ _ e => e)
    obtain ⟨z1, z2⟩ := z
    subst z1
    subst z2
    refine wpAny_bind (m := tryCompare (.ref x) _ u) (wpAny_mono two (fun r s2 z => ?_) fun _ _ e => e)
    obtain ⟨v, rfl, hq⟩ := z
    exact wpAny_pure hq
  · rename_i q
    exact absurd (by simp) q
theorem str_eq_ins (a : Str) (t : Tok) (x C dx : Addr) : Meets (Builtin.«str.__eq__» ⟨[.str a t, .ref x], []⟩) (fun _ R s => s.heap.get? x = some (PySem.W.instObj C dx) ∧ R (.ok (.ret .notImplemented)) s) :=
  .of_wp fun prog w A R s h => by
    obtain ⟨hp, g, d, tk, os⟩ := s; obtain ⟨hl, h⟩ := h
    unfold PySem.W.instObj at hl
    wp_walk using wpAny_loadPart' hl
    exact ⟨_, rfl, h⟩
theorem wpAny_sub' {M : Model} {A : Around} {E : Value → Shared → Prop} {h : Heap} {g : Array GenState} {d : Drawn} {t : Nat} {os : OsState} {a b : Value} {r : Bool} {Q : Bool → Shared → Prop}
    (x : PySem.W.Looks M h (isSubtype a b) r) (hq : Q r ⟨h, g, d, t, os⟩) : wpAny M A (isSubtype a b) Q E ⟨h, g, d, t, os⟩ := PySem.W.Looks.here (s := ⟨h, g, d, t, os⟩) x hq
theorem tuple_eq_ins (l x C dx : Addr) (hm : PySem.W.mroIn K C (.type "tuple") = some false) :
    Meets (Builtin.«tuple.__eq__» ⟨[.ref l, .ref x], []⟩) (fun _ R s => K.In s.heap ∧ s.heap.get? x = some (PySem.W.instObj C dx) ∧ R (.ok (.ret .notImplemented)) s) :=
  .of_wp fun prog w A R s h => by
    obtain ⟨hp, g, d, tk, os⟩ := s; obtain ⟨X, hl, h⟩ := h
    unfold PySem.W.instObj at hl
    have L : PySem.W.Looks (model prog w) hp (isSubtype (.ref C) (.type "tuple")) false := PySem.W.looks_subIn X hm
    wp_walk using wpAny_loadPart' hl, wpAny_sub' L
    exact ⟨_, rfl, h⟩
theorem list_eq_ins (l x C dx : Addr) (hm : PySem.W.mroIn K C (.type "list") = some false) :
    Meets (Builtin.«list.__eq__» ⟨[.ref l, .ref x], []⟩) (fun _ R s => K.In s.heap ∧ s.heap.get? x = some (PySem.W.instObj C dx) ∧ R (.ok (.ret .notImplemented)) s) :=
  .of_wp fun prog w A R s h => by
    obtain ⟨hp, g, d, tk, os⟩ := s; obtain ⟨X, hl, h⟩ := h
    unfold PySem.W.instObj at hl
    have L : PySem.W.Looks (model prog w) hp (isSubtype (.ref C) (.type "list")) false := PySem.W.looks_subIn X hm
    wp_walk using wpAny_loadPart' hl, wpAny_sub' L
    exact ⟨_, rfl, h⟩
theorem int_eq_ins (i : Int) (t : Tok) (x C dx : Addr) : Meets (Builtin.«int.__eq__» ⟨[.int i t, .ref x], []⟩) (fun _ R s => s.heap.get? x = some (PySem.W.instObj C dx) ∧ R (.ok (.ret .notImplemented)) s) :=
  .of_wp fun prog w A R s h => by
    obtain ⟨hp, g, d, tk, os⟩ := s; obtain ⟨hl, h⟩ := h
    unfold PySem.W.instObj at hl
    wp_walk using wpAny_loadPart' hl
    exact ⟨_, rfl, h⟩
/-- u in a builtin's loop against an instance -/
theorem eqBool_ins {u : Value} {Q : Bool → Shared → Prop} (hne : (u == Value.ref x) = false) (h : wpAny (model prog w) A (richCompare .Eq u (.ref x)) (fun v s' => ∃ r, v = .bool r ∧ Q r s') E s) : wpAny (model prog w) A (eqBool u (.ref x)) Q E s := by
  unfold eqBool
  refine wpAny_holding ?_
  refine wpAny_ite_split (fun hab => by rw [hne] at hab; cases hab) (fun _ => ?_)
  cases u <;> (
    refine wpAny_bind (wpAny_mono h (fun v s' hv => ?_) fun _ _ x => x)
    obtain ⟨r, rfl, q⟩ := hv
    exact wpAny_truthy_bool q)
theorem tuple_inG {R : Result → Shared → Prop} (l : Addr) (items : Array Value) (n : Nat) (dd : Option Addr) (sl : Array (Option Value)) (y : Value) (I : Shared → Prop)
    (turn : ∀ z, z ∈ items → ∀ s, I s → wpAny (model prog w) A.in1 (eqBool z y) (fun r s' => r = false ∧ I s') (fun e s' => R (.error e) s') s)
    (fin : ∀ s, I s → R (.ok (.ret (.bool false))) s) (hl : s.heap.get? l = some { cls := .type "tuple", dict := dd, data := .seq items n, slots := sl }) (h : I s) :
    wpAny (model prog w) A.in1 (Builtin.«tuple.__contains__» ⟨[.ref l, y], []⟩) (GQ.FinOf prog w A R) (fun e s' => R (.error e) s') s := by
  obtain ⟨hp, g, d, tk, os⟩ := s
  wp_walk using wpAny_loadPart' hl, wpAny_forIn_array _ (fun rest b s' => b.1 = none ∧ I s' ∧ (∀ z, z ∈ rest → z ∈ items)) _

  case turn =>
    rintro z rest b s' ⟨hb, hI, hmem⟩
    refine wpAny_bind (wpAny_mono (turn z (hmem z (List.mem_cons_self ..)) s' hI) (fun r s2 q => ?_) fun _ _ x => x)
    obtain ⟨rfl, q2⟩ := q
    wp_walk
    exact ⟨rfl, q2, fun z hz => hmem z (List.mem_cons_of_mem _ hz)⟩
  case fin =>
    rintro ⟨b1, b2⟩ s' ⟨hb, hI, hmem⟩
    simp only at hb
    subst hb
    have hR := fin s' hI
    wp_walk
    exact hR
  case h =>
    exact ⟨rfl, h, fun z hz => by simpa using hz⟩
theorem in_tupG {l : Addr} {items : Array Value} {y : Value} {Q : Value → Shared → Prop} (I : Shared → Prop) (hl : s.heap.IsTuple l items)
    (turn : ∀ z, z ∈ items → ∀ s, I s → wpAny (model prog w) A.in1 (eqBool z y) (fun r s' => r = false ∧ I s') E s) (fin : ∀ s, I s → Q (.bool false) s) (h : I s) :
    wpAny (model prog w) A (compareOp .In y (.ref l)) Q E s := by
  obtain ⟨⟨cls, dd, data, sl⟩, ho, hc, n, hd⟩ := id hl
  simp only at hc hd
  subst hc hd
  show wpAny _ A (do return .bool (← contains (.ref l) y)) Q E s
  refine wpAny_bind (wpAny_contains_slot ⟨_, ho, rfl⟩ F.slot_tuple_contains (wpAny_mono (GQ.call_here F.slot_tuple_contains ⟨_, ho, rfl⟩ F.entry_tuple_contains (F.args_tuple_contains_2 _ _)
    (tuple_inG (R := wants (fun v s' => ∃ b, v = .bool b ∧ Q (.bool b) s') E) l items n dd sl y I turn (fun s' q => ⟨_, rfl, fin s' q⟩) ho h)) (fun v s' hv => ?_) fun _ _ e => e))
  obtain ⟨b, rfl, hq⟩ := hv
  exact wpAny_truthy_bool (wpAny_pure hq)
end
/-- the class at C is no subclass of these -/
structure OwnN (K : PySem.W.Frag) (C : Addr) : Prop where
  no : PySem.W.mroIn K C (.type "NoneType") = some false
  st : PySem.W.mroIn K C (.type "str") = some false
  tu : PySem.W.mroIn K C (.type "tuple") = some false
  li : PySem.W.mroIn K C (.type "list") = some false
  it : PySem.W.mroIn K C (.type "int") = some false
theorem Vals.of_mem : ∀ {xs : List V} {us : List Value}, Vals xs us → ∀ {u : Value}, u ∈ us → ∃ x, x ∈ xs ∧ RelV x u
  | _, _, .nil, _, h => by cases h
  | _, _, .cons r t, u, h => by
    rcases List.mem_cons.mp h with e | h
    · subst e
      exact ⟨_, List.mem_cons_self, r⟩
    · obtain ⟨x, hx, k⟩ := Vals.of_mem t h
      exact ⟨x, List.mem_cons_of_mem _ hx, k⟩
section
variable {X : Cx} {CX : CXT} {pins : List (Addr × Obj)} {σ : L2.St} {H : Hp} {s : Shared} {C g : Addr} {n : Nat} {sp : Sp} {E : XK}
theorem ins_obj {a dx : Addr} {fs : List (Str × V)} (I : Inv X pins σ H s) (h : H a = some (.ins C dx fs)) : ∃ od, PySem.W.InstAt s.heap a (PySem.W.instObj C dx) C od := by
  obtain ⟨mA, J, _⟩ := ins_get I.hok h
  obtain ⟨od, J, _⟩ := J.look
  exact ⟨_, J⟩
/-- kinds of values that an instance is compared with from the left -/
def OthV (K : PySem.W.Frag) (H : Hp) (z : V) : Prop := z = .non ∨ (∃ i, z = .str i) ∨ (∃ i, z = .int i) ∨ ∃ p ys, z = .ref p ∧ SqT K H p ys
def falseO (sp : Sp) (E : XK) (a : Addr) (z : V) (H : Hp) : Prop := sp [.ref a, z] H (fun v H' => v = .bl false ∧ H' = H) E
theorem rc_oth {A : Around} {a dx : Addr} {fs : List (Str × V)} {z : V} {u : Value} (O : OwnQ X.K C g) (N : OwnN X.K C) (FG : FnR X.prog X.w X.K X.mg X.base CX n g sp) (hr : Room n A) (e0 : Env0 X.prog X.w X.K X.mg X.base A X.stack s H) (hx : Passes CX X E)
    (I : Inv X pins σ H s) (ha : H a = some (.ins C dx fs)) (rz : RelV z u) (oz : OthV X.K H z) (q : falseO sp E a z H) :
    wpAny (model X.prog X.w) A (eqBool u (.ref a)) (fun r s' => r = false ∧ Inv X pins σ H s') X.xe s := by
  obtain ⟨od, J⟩ := ins_obj I ha
  have run : wpAny (model X.prog X.w) A (call (.ref g) [.ref a, u]) (PySem.W.CmpBack (fun v s' => ∃ r, v = .bool r ∧ r = false ∧ Inv X pins σ H s')) X.xe s := by
    refine wpAny_mono (wpAny_call (SlX.run_at (us := [.ref a, u]) (ws := [.ref a, z]) FG hr e0 hx I (.cons rfl (.cons rz .nil)) q)) (fun w s' y => ?_) fun _ _ x => x
    obtain ⟨z', H', I', ry, e1, e2⟩ := y
    subst e1
    subst e2
    cases (show w = Value.bool false from ry)
    exact ⟨false, rfl, rfl, I'⟩
  rcases oz with rfl | ⟨i, rfl⟩ | ⟨i, rfl⟩ | ⟨p, ys, rfl, hp⟩
  · cases (show u = Value.none from rz)
    exact eqBool_ins rfl (rc_eqR hr.units0 I.kIn J O (show s.TypeIs .none "NoneType" from rfl) F.slot_NoneType_eq N.no (call_gives F.slot_NoneType_eq rfl F.entry_NoneType_eq (F.args_NoneType_eq_2 _ _) (NoneType___eq___none_ref_0 a) ⟨rfl, rfl⟩) run)
  · obtain ⟨t, rfl⟩ := (show ∃ t, u = Value.str i t from rz)
    exact eqBool_ins rfl (rc_eqR hr.units0 I.kIn J O (show s.TypeIs (.str i t) "str" from rfl) F.slot_str_eq N.st (call_meets F.slot_str_eq rfl F.entry_str_eq (F.args_str_eq_2 _ _) (str_eq_ins i t a C dx) ⟨J.at_, rfl, rfl⟩) run)
  · obtain ⟨t, rfl⟩ := (show ∃ t, u = Value.int i t from rz)
    exact eqBool_ins rfl (rc_eqR hr.units0 I.kIn J O (show s.TypeIs (.int i t) "int" from rfl) F.slot_int_eq N.it (call_meets F.slot_int_eq rfl F.entry_int_eq (F.args_int_eq_2 _ _) (int_eq_ins i t a C dx) ⟨J.at_, rfl, rfl⟩) run)
  · cases (show u = Value.ref p from rz)
    obtain ⟨its, rv, ⟨o, ho, hc, _⟩, _⟩ := I.tuple hp
    have hne : (Value.ref p == Value.ref a) = false := by
      have : p ≠ a := by
        rintro rfl
        have e := J.at_
        rw [ho] at e
        cases e
        cases hc
      simp [this]
    exact eqBool_ins hne (rc_eqR hr.units0 I.kIn J O (show s.TypeIs (.ref p) "tuple" from ⟨_, ho, hc⟩) F.slot_tuple_eq N.tu (call_meets F.slot_tuple_eq ⟨_, ho, hc⟩ F.entry_tuple_eq (F.args_tuple_eq_2 _ _) (tuple_eq_ins p a C dx N.tu) ⟨I.kIn, J.at_, rfl, rfl⟩) run)
/-- x in a tuple of other things -/
def rInO (K : PySem.W.Frag) (C : Addr) (sp : Sp) (E : XK) : R2 := fun x y H Q => ∃ a dx fs t xs, x = .ref a ∧ H a = some (.ins C dx fs) ∧ y = .ref t ∧ SqT K H t xs ∧ (∀ z ∈ xs, OthV K H z ∧ falseO sp E a z H) ∧ Q (.bl false) H
theorem op_inO (O : OwnQ X.K C g) (N : OwnN X.K C) (F : FnR X.prog X.w X.K X.mg X.base CX n g sp) (hr : Room (n + 2) X.A) (hx : Passes CX X E) : OpR X (compareOp .In) (rInO X.K C sp E) := by
  intro pins s σ H x y v u Q I rx ry h
  obtain ⟨a, dx, fs, t, xs, rfl, ha, rfl, ht, hz, q⟩ := h
  cases (show v = Value.ref a from rx)
  cases (show u = Value.ref t from ry)
  obtain ⟨its, rv, e, _⟩ := I.tuple ht
  have hr1 : Room n X.A.in1 := Room.in1 (hr.mono (by omega))
  refine in_tupG (fun s' => Inv X pins σ H s') e (fun z hm s' I' => ?_) (fun s' I' => ⟨.bl false, H, I', rfl, q⟩) I
  obtain ⟨zz, hzz, rz⟩ := Vals.of_mem rv (by simpa using hm)
  exact rc_oth O N F hr1 I'.env0.in1 hx I' ha rz (hz zz hzz).1 (hz zz hzz).2
end
end Rs
/-! What a class with its own __eq__ is to isinstance; any value in a tuple of texts. -/
namespace Rs
open PySem PySem.Spec PyProof.Rows L2
theorem fnR {P : Program} {w : World} {K : PySem.W.Frag} {mg : Str → Option Value} {base : Heap} {CX : CXT} {k : Nat} {f : Addr} {fd : FuncData} {ps : List Str} {sp : Sp} (F : FnOk P w K mg base CX k f fd ps sp) (hb : Binds K fd ps []) : FnR P w K mg base CX k f sp :=
  (F.raw hb .nil).imp fun vs H Q E h => by
    show sp (vs ++ []) H Q E
    rw [List.append_nil]
    exact h
structure OwnI (K : PySem.W.Frag) (C : Addr) : Prop where
  cl : (PySem.W.clsIn K C).isSome = true
  tp : PySem.W.typeIn K (.ref C) = some (.type "type")
  ca : PySem.W.findIn K (.ref C) "__class__" = some (some (.builtin "object.__class__"))
  sp : PySem.W.specialIn K (.builtin "object.__class__") "__get__" = some (some (.builtin "getset_descriptor.__get__"))
  tk : PySem.W.takesIn K (.builtin "object.__class__") = some true
  mo : PySem.W.mroIn K C (.type "object") = some true
theorem OwnI.ty {K : PySem.W.Frag} {C a dx : Addr} {fs : List (Str × V)} {H : Hp} (h : OwnI K C) (c : Cls K C) (e : H a = some (.ins C dx fs)) : TyX K H (.ref a) (.ref C) := .base (.ins e c h.ca h.sp h.tk h.mo)
theorem kit_self {K : PySem.W.Frag} {C : Addr} : PySem.W.kitOne K (.ref C) (.ref C) = some true := by simp [PySem.W.kitOne]
theorem OwnI.no {K : PySem.W.Frag} {C : Addr} {T : String} {ns : List String} (h : OwnI K C) (e : fastBuiltinMro T = some (ns.map Value.type)) : PySem.W.kitOne K (.type T) (.ref C) = some false := by
  have h1 : PySem.W.subIn K (.type T) (.ref C) = some false := by
    show (fastBuiltinMro T).map (·.contains (.ref C)) = some false
    rw [e]
    simp
  unfold PySem.W.kitOne PySem.W.kitCls
  simp [h.cl, h.tp, h1]
/-- the built-in kinds that stand beside own instances -/
inductive BT : String → Prop
  | non : BT "NoneType"
  | bl : BT "bool"
  | int : BT "int"
  | str : BT "str"
  | lst : BT "list"
  | tup : BT "tuple"
theorem BT.nf {K : PySem.W.Frag} {C : Addr} {T : String} (h : BT T) : PySem.W.notFirst K C (.type T) = true := by
  cases h
  · exact nf_none
  · exact nf_bool
  · exact nf_int
  · exact nf_str
  · exact nf_list
  · exact nf_tuple
theorem OwnI.bt {K : PySem.W.Frag} {C : Addr} {T : String} (h : OwnI K C) (b : BT T) : PySem.W.kitOne K (.type T) (.ref C) = some false := by
  cases b
  · exact h.no (ns := ["NoneType", "object"]) (by decide +kernel)
  · exact h.no (ns := ["bool", "int", "object"]) (by decide +kernel)
  · exact h.no (ns := ["int", "object"]) (by decide +kernel)
  · exact h.no (ns := ["str", "object"]) (by decide +kernel)
  · exact h.no (ns := ["list", "object"]) (by decide +kernel)
  · exact h.no (ns := ["tuple", "object"]) (by decide +kernel)
theorem Sh.bt {K : PySem.W.Frag} {b : Addr} {H : Hp} {v : V} (h : Sh b H v) : ∃ T, TyX K H v (.type T) ∧ BT T := by
  cases v with
  | non => exact ⟨_, .base .non, .non⟩
  | bl x => exact ⟨_, .base (.bl x), .bl⟩
  | int x => exact ⟨_, .base (.int x), .int⟩
  | str x => exact ⟨_, .base (.str x), .str⟩
  | ref a =>
    obtain ⟨ne, ⟨xs, e⟩ | ⟨xs, e⟩⟩ := h
    · exact ⟨_, .base (.lst e), .lst⟩
    · exact ⟨_, .base (.tup e), .tup⟩
  | byt _ => exact h.elim
  | flt _ => exact h.elim
  | ty _ => exact h.elim
/-- whether a value is one of some texts -/
def isOne (ys : List Str) : V → Bool
  | .str x => ys.any (· == x)
  | _ => false
def eqText (v : V) : Value → Bool
  | .str c _ => (match v with
    | .str x => c == x
    | _ => false)
  | _ => false
theorem any_text {v : V} : ∀ {ys : List Str} {us : List Value}, Vals (ys.map V.str) us → us.any (eqText v) = isOne ys v
  | [], _, .nil => by cases v <;> rfl
  | y :: ys, _, .cons r t => by
    obtain ⟨k, rfl⟩ := r
    have ih := any_text (v := v) t
    rw [List.any_cons, ih]
    cases v <;> simp [eqText, isOne]
section
variable {X : Cx} {pins : List (Addr × Obj)} {σ : L2.St} {H : Hp} {s : Shared}
theorem text_eqAt {A : Around} {b : Addr} {v : V} {u : Value} (hu : A.units < cLine) (I : Inv X pins σ H s) (h : Sh b H v) (rv : RelV v u) (y : Str) (t : Tok) : SeqAt.EqAt A s (.str y t) u (eqText v (.str y t)) := by
  cases v with
  | non => cases (show u = Value.none from rv); exact SeqAt.EqAt.str_none y t
  | bl x => cases (show u = Value.bool x from rv); exact SeqAt.EqAt.str_bool y t x
  | int i => obtain ⟨k, rfl⟩ := (show ∃ k, u = Value.int i k from rv); exact SeqAt.EqAt.str_int y t i k
  | str x => obtain ⟨k, rfl⟩ := (show ∃ k, u = Value.str x k from rv); exact SeqAt.EqAt.str_str y t x k
  | ref a =>
    cases (show u = Value.ref a from rv)
    obtain ⟨ne, ⟨xs, e⟩ | ⟨xs, e⟩⟩ := h
    · obtain ⟨its, r, pl, _⟩ := I.list (SqL.of e)
      exact SeqAt.EqAt.str_list y t pl.isList hu
    · obtain ⟨its, r, pl, _⟩ := I.tuple (SqT.of e)
      exact SeqAt.EqAt.str_tuple y t pl hu
  | byt _ => exact h.elim
  | flt _ => exact h.elim
  | ty _ => exact h.elim
/-- x (not) in a tuple of texts -/
def rInSh (K : PySem.W.Frag) (neg : Bool) : R2 := fun x y H Q => ∃ b p ys, y = .ref p ∧ SqT K H p (ys.map V.str) ∧ Sh b H x ∧ Q (.bl (if neg then !isOne ys x else isOne ys x)) H
theorem mem_text {b : Addr} {A : Around} {v : V} {u : Value} (hu : A.units < cLine) (I : Inv X pins σ H s) (h : Sh b H v) (rv : RelV v u) : ∀ {ys : List Str} {us : List Value}, Vals (ys.map V.str) us → ∀ z ∈ us, SeqAt.EqAt A s z u (eqText v z)
  | [], _, .nil, _, hz => by cases hz
  | y :: ys, _, .cons r t, z, hz => by
    obtain ⟨k, rfl⟩ := r
    rcases List.mem_cons.mp hz with e | hz
    · subst e
      exact text_eqAt hu I h rv y k
    · exact mem_text hu I h rv t z hz
theorem op_inSh (hu : X.A.units + 64 < cLine) : OpR X (compareOp .In) (rInSh X.K false) := by
  intro pins s σ H x y v u Q I rx ry h
  obtain ⟨b, p, ys, rfl, hq, hs, q⟩ := h
  cases ry
  obtain ⟨its, rv, pl, _⟩ := I.tuple hq
  have hu1 : X.A.in1.units < cLine := by show X.A.units + 1 < cLine; omega
  refine SeqAt.in_tupleAt (eqText x) pl (fun z hz => mem_text hu1 I hs rx rv z (by simpa using hz)) ⟨.bl _, H, I, rfl, ?_⟩
  rw [show its.toArray.any (eqText x) = its.any (eqText x) by simp, any_text rv]
  exact q
theorem op_notInSh (hu : X.A.units + 64 < cLine) : OpR X (compareOp .NotIn) (rInSh X.K true) := by
  intro pins s σ H x y v u Q I rx ry h
  obtain ⟨b, p, ys, rfl, hq, hs, q⟩ := h
  cases ry
  obtain ⟨its, rv, pl, _⟩ := I.tuple hq
  have hu1 : X.A.in1.units < cLine := by show X.A.units + 1 < cLine; omega
  refine SeqAt.notIn_tupleAt (eqText x) pl (fun z hz => mem_text hu1 I hs rx rv z (by simpa using hz)) ⟨.bl _, H, I, rfl, ?_⟩
  rw [show its.toArray.any (eqText x) = its.any (eqText x) by simp, any_text rv]
  exact q
end
end Rs
/-! Dicts of ints as sets; comprehensions over anything walked; a bool > an int; values by two levels of shape. -/
namespace Rs
open PySem PySem.Spec PyProof.Rows L2
/-! ### a bool > an int -/
section
variable {prog : Program} {w : World} {A : Around} {E : Value → Shared → Prop} {s : Shared}
theorem gives_gt_bool (c : Bool) (j : Int) (u : Tok) : Gives (Builtin.«int.__gt__» ⟨[.bool c, .int j u], []⟩) (.val (Value.bool (decide (j < (if c = true then (1 : Int) else 0))))) :=
  .of_wp fun M A E s Q h => by
    obtain ⟨hp, g, d, tk, os⟩ := s
    wp_walk
    exact ⟨_, rfl, h⟩
theorem gt_bool_int {c : Bool} {j : Int} {u : Tok} {Q : Value → Shared → Prop} (h : Q (.bool (decide (j < (if c = true then (1 : Int) else 0)))) s) : wpAny (model prog w) A (compareOp .Gt (.bool c) (.int j u)) Q E s := by
  show wpAny _ _ (richCompare .Gt (.bool c) (.int j u)) Q E s
  exact wpAny_richCompare_left (op := .Gt) (Ta := "bool") (Tb := "int") rfl (typeIs_int s j u) (by decide) F.sub_int_bool F.slot_bool_gt
    (call_gives F.slot_bool_gt rfl F.entry_int_gt (F.args_int_gt_2 _ _) (gives_gt_bool c j u) ⟨nofun, h⟩)
end
/-- an int or a bool > an int -/
def gtI (v : V) (j : Int) : Bool := match v with
  | .int i => decide (j < i)
  | .bl c => decide (j < (if c = true then (1 : Int) else 0))
  | _ => false
def rGtI : R2 := fun x y H Q => ∃ j, y = .int j ∧ ((∃ i, x = .int i) ∨ ∃ c, x = .bl c) ∧ Q (.bl (gtI x j)) H
theorem op_gtI {X : Cx} : OpR X (compareOp .Gt) rGtI := by
  intro pins s σ H x y v u Q I rx ry h
  obtain ⟨j, rfl, ⟨i, rfl⟩ | ⟨c, rfl⟩, q⟩ := h
  · exact op_gt pins s σ H _ _ v u Q I rx ry ⟨i, j, rfl, rfl, q⟩
  · obtain ⟨t, rfl⟩ := ry
    cases (show v = Value.bool c from rx)
    exact gt_bool_int ⟨.bl _, H, I, rfl, q⟩
/-! ### y in a dict -/
def rInDict : R2 := fun y x H Q => ∃ a o, x = .ref a ∧ DGet H a y o ∧ Q (.bl o.isSome) H
theorem op_inDict {X : Cx} (hu : X.A.units + 1 < cLine) : OpR X (compareOp .In) rInDict := by
  intro pins s σ H y x v u Q I ry rx h
  obtain ⟨a, o, rfl, g, q⟩ := h
  cases (show u = Value.ref a from rx)
  exact d_in hu I g ry fun s3 I3 => ⟨.bl o.isSome, H, I3, rfl, q⟩
/-- the int keys of a dict are just these -/
def KeysI (kvs : List (Key × V)) (ns : List Int) : Prop := (∀ i : Int, (valV kvs (.inl i)).isSome = decide (i ∈ ns)) ∧ kvs.length ≤ ns.length
theorem KeysI.nil : KeysI [] [] := ⟨fun i => by simp [valV], Nat.le_refl _⟩
theorem KeysI.snoc {kvs : List (Key × V)} {ns : List Int} (h : KeysI kvs ns) (i : Int) (v : V) : KeysI (putK kvs (.inl i) v) (ns ++ [i]) := by
  refine ⟨fun j => ?_, ?_⟩
  · rw [valV_put]
    by_cases e : j = i
    · subst e
      simp
    · have e' : ¬ ((Sum.inl j : Key) = .inl i) := fun q => e (Sum.inl.inj q)
      rw [if_neg e', h.1 j]
      simp [e]
  · have l1 := length_putK kvs (Sum.inl i : Key) v
    have l2 := h.2
    rw [List.length_append]
    show _ ≤ ns.length + 1
    omega
theorem KeysI.get {kvs : List (Key × V)} {ns : List Int} (h : KeysI kvs ns) {H : Hp} {a : Addr} (e : H a = some (.dK kvs)) (i : Int) : ∃ o, DGet H a (.int i) o ∧ o.isSome = decide (i ∈ ns) :=
  ⟨_, DGet.k (k := (.inl i : Key)) e, h.1 i⟩
/-- a dict of ints stands at D -/
def SetI (H : Hp) (D : Addr) (ns : List Int) : Prop := ∃ kvs, H D = some (.dK kvs) ∧ KeysI kvs ns
theorem SetI.get {H : Hp} {D : Addr} {ns : List Int} (h : SetI H D ns) (i : Int) : ∃ o, DGet H D (.int i) o ∧ o.isSome = decide (i ∈ ns) := by
  obtain ⟨kvs, e, k⟩ := h
  exact k.get e i
theorem SetI.same {H H' : Hp} {D : Addr} {ns : List Int} (h : SetI H D ns) (s : Same H H') : SetI H' D ns := by
  obtain ⟨kvs, e, k⟩ := h
  exact ⟨kvs, s _ _ e, k⟩
/-- a dict comprehension over anything walked -/
theorem dc_it {J : It} {n : Nat} {G : Hp → Prop} {Y : Nat → Hp → V → Hp → Prop} (wk : Walk J n G Y) {g : TG} {tt : TT} {tk tv : TE} {vs : List Nat} {σ : L2.St} {H0 : Hp} {D : Addr} {Qe : Hp → Prop} (R : Nat → Hp → Prop) (start : R 0 (upd H0 D (.dK [])))
    (stay : ∀ j H, j ≤ n → R j H → G H)
    (turn : ∀ j x H H', j < n → R j H → Y j H x H' → g x (wipe σ vs) H' fun σ1 H1 => wipe σ1 vs = wipe σ vs ∧ tt σ1 H1 fun c H2 =>
      if c = true then tk σ1 H2 fun y H3 => tv σ1 H3 fun z H4 => ∃ ks k, y = kV k ∧ H4 D = some (.dK ks) ∧ ks.length < sizeLine ∧ R (j + 1) (upd H4 D (.dK (putK ks k z))) else R (j + 1) H2)
    (fin : ∀ H, R n H → Qe H) :
    ∃ W : Nat → Nat → Hp → Prop, (∃ m, W 0 m (upd H0 D (.dK []))) ∧ ∀ j m H, W j m H → (J.stop j H ∧ Qe H) ∨
      (J.go j H ∧ ∃ N : Hp → Prop, (∀ H', N H' → ∃ m', m' < m ∧ W (j + 1) m' H') ∧ ∀ x H', J.yld j H x H' → g x (wipe σ vs) H' fun σ1 H1 => wipe σ1 vs = wipe σ vs ∧ tt σ1 H1 fun c H2 =>
        if c = true then tk σ1 H2 fun y H3 => tv σ1 H3 fun z H4 => ∃ ks k, y = kV k ∧ H4 D = some (.dK ks) ∧ ks.length < sizeLine ∧ N (upd H4 D (.dK (putK ks k z))) else N H2) := by
  refine ⟨fun j m H => m + j = n ∧ R j H, ⟨n, rfl, start⟩, fun j m H hw => ?_⟩
  obtain ⟨em, hR⟩ := hw
  have gH := stay j H (by omega) hR
  cases m with
  | zero =>
    obtain rfl : j = n := by omega
    exact .inl ⟨wk.stops H gH, fin H hR⟩
  | succ m =>
    have lt : j < n := by omega
    refine .inr ⟨wk.goes j H lt gH, R (j + 1), fun H' hN => ⟨m, Nat.lt_succ_self m, by omega, hN⟩, fun x H' hy => ?_⟩
    exact turn j x H H' lt hR (wk.yields j H x H' lt gH hy)
/-! ### more of what stays -/
theorem But.free {b p : Addr} {H H' : Hp} (k : But b H H') (ne : p ≠ b) (h : H' p = none) : H p = none := by
  cases e : H p with
  | none => rfl
  | some o =>
    have := k p o ne e
    rw [h] at this
    cases this
/-- values told by their own shape and that of their things -/
def Tw (b : Addr) (H : Hp) : V → Prop
  | .ref a => a ≠ b ∧ ∃ xs, (H a = some (.lst xs) ∨ H a = some (.tup xs)) ∧ xs.length ≤ 100 ∧ ∀ x ∈ xs, Sh b H x
  | v => Sh b H v
theorem Tw.sh {b : Addr} {H : Hp} {v : V} (h : Tw b H v) : Sh b H v := by
  cases v with
  | ref a =>
    obtain ⟨n, xs, e | e, _⟩ := h
    · exact ⟨n, .inl ⟨xs, e⟩⟩
    · exact ⟨n, .inr ⟨xs, e⟩⟩
  | _ => exact h
theorem Tw.but {b : Addr} {H H' : Hp} {v : V} (h : Tw b H v) (k : But b H H') : Tw b H' v := by
  cases v with
  | ref a =>
    obtain ⟨n, xs, e, l, q⟩ := h
    exact ⟨n, xs, e.imp (k _ _ n) (k _ _ n), l, fun x hx => (q x hx).but k⟩
  | _ => exact h
theorem Tw.set {b t : Addr} {H : Hp} {v : V} {xs ys : List V} (h : Tw b H v) (e : H t = some (.lst xs)) (ne : v ≠ .ref t) : Tw b (upd H t (.lst ys)) v := by
  cases v with
  | ref a =>
    obtain ⟨n, zs, f, l, q⟩ := h
    have na : a ≠ t := fun z => ne (by rw [z])
    exact ⟨n, zs, by rw [upd_ne na]; exact f, l, fun x hx => (q x hx).set e⟩
  | _ => exact h
/-- a value that is no older object -/
def NewV (H : Hp) (v : V) : Prop := ∀ a, v = .ref a → H a = none
theorem NewV.ne {H : Hp} {v : V} {t : Addr} {o : HO} (h : NewV H v) (e : H t = some o) : v ≠ .ref t := fun z => by
  have := h t z
  rw [e] at this
  cases this
theorem NewV.but {b : Addr} {H H' : Hp} {v : V} (h : NewV H' v) (k : But b H H') (s : Sh b H' v) : NewV H v := fun a e => by
  subst e
  exact k.free s.1 (h a rfl)
/-! ### the things of a list or a tuple -/
def seqV (H : Hp) : V → Option (List V)
  | .ref a => match H a with
    | some (.lst xs) => some xs
    | some (.tup xs) => some xs
    | _ => none
  | _ => none
theorem seqV_lst {H : Hp} {a : Addr} {xs : List V} (h : H a = some (.lst xs)) : seqV H (.ref a) = some xs := by
  show (match H a with
    | some (.lst xs) => some xs
    | some (.tup xs) => some xs
    | _ => none) = _
  rw [h]
theorem seqV_tup {H : Hp} {a : Addr} {xs : List V} (h : H a = some (.tup xs)) : seqV H (.ref a) = some xs := by
  show (match H a with
    | some (.lst xs) => some xs
    | some (.tup xs) => some xs
    | _ => none) = _
  rw [h]
theorem seqV_tw {b : Addr} {H H' : Hp} {v : V} (h : Tw b H v) (k : But b H H') : seqV H' v = seqV H v := by
  cases v with
  | ref a =>
    obtain ⟨n, xs, e | e, _⟩ := h
    · rw [seqV_lst e, seqV_lst (k _ _ n e)]
    · rw [seqV_tup e, seqV_tup (k _ _ n e)]
  | _ => rfl
def inB (lo hi : Int) : V → Bool
  | .int i => decide (lo ≤ i) && decide (i < hi)
  | _ => false
/-- whether a value is a sequence of integers between -/
def btw (H : Hp) (lo hi : Int) (v : V) : Bool := match seqV H v with
  | some xs => xs.all (inB lo hi)
  | none => false
theorem btw_seq {H : Hp} {lo hi : Int} {v : V} {xs : List V} (h : seqV H v = some xs) : btw H lo hi v = xs.all (inB lo hi) := by
  unfold btw
  rw [h]
theorem btw_none {H : Hp} {lo hi : Int} {v : V} (h : seqV H v = none) : btw H lo hi v = false := by
  unfold btw
  rw [h]
theorem btw_tw {b : Addr} {H H' : Hp} {v : V} {lo hi : Int} (h : Tw b H v) (k : But b H H') : btw H' lo hi v = btw H lo hi v := by
  unfold btw
  rw [seqV_tw h k]
theorem all_inB {lo hi : Int} : ∀ {xs : List V}, xs.all (inB lo hi) = true → ∃ ns : List Int, xs = ns.map V.int ∧ ∀ n ∈ ns, lo ≤ n ∧ n < hi
  | [], _ => ⟨[], rfl, fun n h => nomatch h⟩
  | x :: xs, h => by
    rw [List.all_cons, Bool.and_eq_true] at h
    obtain ⟨ns, rfl, q⟩ := all_inB h.2
    cases x with
    | int i =>
      have h1 := h.1
      simp only [inB, Bool.and_eq_true, decide_eq_true_eq] at h1
      exact ⟨i :: ns, rfl, fun n hn => by
        rcases List.mem_cons.mp hn with e | e
        · subst e; exact h1
        · exact q n e⟩
    | _ => exact absurd h.1 (by simp [inB])
/-! ### n = {k: v for ..}, n a local name that no inner block keeps -/
theorem sw_dc {kx vx : Expr} {gs : List Comprehension} {sc : Scope} {p q : Pos} {n : Str} {ln : Nat} {ev : Env} (isf : ev.scope.kind = .function) (isl : ev.scope.names.lookup n = some .local) (same : (q.line == p.line) = true)
    (out : (sc.names.any fun (m, k) => m == n && (k == .local || k == .cell)) = false) : swapsWith (.DictComp kx vx gs sc p) (some (.Name n q)) ln ev = pure true := by
  have k1 : ev.kindOf n = some .local := isl
  have k2 : ev.blockKind = .function := by
    unfold Env.blockKind
    rw [isf]
    rfl
  unfold swapsWith
  simp only [k2, k1, out, Expr.pos, same]
  rfl
theorem ps_setDc {X : Cx} {i : Nat} {n : Str} {q : Pos} {kx vx tg it : Expr} {ifs : List Expr} {sc : Scope} {own : List (Str × Nat)} {p sp : Pos} {wi : TI} {g : TG} {tt : TT} {tk tv : TE} (calm : X.calm = true) (nd : X.N.Nodup) (hn : X.N[i]? = some n) (isl : X.env.scope.names.lookup n = some .local)
    (sw : swapsWith (.DictComp kx vx [⟨tg, it, ifs, 0⟩] sc p) (some (.Name n q)) sp.line X.env = pure true) (hi : PI X tg it wi) (ok : BlkOk X.N X.env.scope sc own)
    (r1 : ∀ (u : Shared) (H : Hp) (C : Addr) (cl : List (Str × Addr)) (fp : List Addr), PG (X.blk u H sc (compEnvC sc cl C X.env) fp) tg g) (r2 : ∀ (u : Shared) (H : Hp) (C : Addr) (cl : List (Str × Addr)) (fp : List Addr), PTs (X.blk u H sc (compEnvC sc cl C X.env) fp) ifs tt)
    (r3 : ∀ (u : Shared) (H : Hp) (C : Addr) (cl : List (Str × Addr)) (fp : List Addr), PE (X.blk u H sc (compEnvC sc cl C X.env) fp) kx tk) (r4 : ∀ (u : Shared) (H : Hp) (C : Addr) (cl : List (Str × Addr)) (fp : List Addr), PE (X.blk u H sc (compEnvC sc cl C X.env) fp) vx tv)
    (plain : ∀ x, foldedSetIterable it X.env x = pure x := by intro _; rfl) : PS X (.Assign [.Name n q] (.DictComp kx vx [⟨tg, it, ifs, 0⟩] sc p) sp) (tAsg (tDc wi g tt tk tv (own.map (·.2))) (gName i)) := by
  refine ⟨fun pins s σ H D I wish => ?_⟩
  have wish : tDc wi g tt tk tv (own.map (·.2)) σ H (fun x H1 => gName i x σ H1 D.nx) := wish
  rw [exec_Assign_Name_used _ _ _ _ sw]
  refine wpAny_bind (wpAny_standAt (wpAny_bind ?_))
  show wpAny _ X.A (do let _ ← comprehension (.DictComp kx vx [⟨tg, it, ifs, 0⟩] sc p) sc X.env (firstIterPos [⟨tg, it, ifs, 0⟩] p) newDict false (eval it X.env) (some (assign (.Name n q) X.env))) _ _ s
  refine wpAny_bind (thn (dc_core (Qf := fun _ s' => SP X pins D .next s') calm nd I hi ok r1 r2 r3 r4 plain wish fun L C s1 ns H1 I1 got hns fr => ?_) fun _ s1 z => wpAny_pure (wpAny_pure z))
  show wpAny _ _ (assign (.Name n q) X.env (.ref L)) _ _ _
  refine wpAny_assign_Name (store_ok2 (v := V.ref L) I1 nd hn (.inl isl) rfl (fun s2 I2 ⟨c, keep, way⟩ => ?_) (.inr isl))
  obtain ⟨e0, e1, e2, e3, e4, e5⟩ := fr
  have far : C ≠ c := by
    rcases way with z | z
    · rw [z]
      exact e1
    · exact fun e => e4 n c z e.symm
  refine ⟨ns, hns.sameBut keep far, fun h3 keep3 => ?_⟩
  exact ⟨_, H1, I2.turned (t' := s2.toks) (fun b o hb e => (keep3.2 b hb).trans e) e0 e1 e3 e4 e5, got⟩
/-- a list or a tuple, walked -/
def iSeqA (K : PySem.W.Frag) (tl : TE) : TI := fun σ H R => tl σ H fun v H1 => ∃ a, v = .ref a ∧ ((∃ xs, SqL K H1 a xs ∧ R (Itl K a) H1) ∨ (∃ xs, SqT K H1 a xs ∧ R (Itt K a) H1))
theorem pi_seqA {X : Cx} {tg l : Expr} {tl : TE} (hl : PE X l tl) : PI X tg l (iSeqA X.K tl) := by
  refine ⟨fun pins s σ H R I h => thn (hl.run pins s σ H _ I h) fun v u res => ?_⟩
  obtain ⟨x, G, J, rx, a, ex, way⟩ := res
  subst ex
  cases rx
  have new : ∀ c ∈ [u.heap.objs.size], FpOk X pins G c := fun c hc => by
    obtain rfl : c = u.heap.objs.size := by simpa using hc
    exact J.fpOk (Nat.le_refl _) (J.hok.fresh (Nat.le_refl _))
  rcases way with ⟨xs, hq, q⟩ | ⟨xs, hq, q⟩
  · obtain ⟨its, rv, p, _⟩ := J.list hq
    refine wpAny_pyIter_list p.isList ⟨u.heap.objs.size, [u.heap.objs.size], _, _, G, rfl, ?_, turn_list a _, ⟨_, Heap.get?_push_size _ rfl, rfl, rfl⟩, new, q⟩
    exact J.kept (t' := u.toks) fun c r z => Heap.get?_push_of_some _ z
  · obtain ⟨its, rv, p, _⟩ := J.tuple hq
    refine wpAny_pyIter_tuple (show u.heap.IsTuple a its.toArray from p) ⟨u.heap.objs.size, [u.heap.objs.size], _, _, G, rfl, ?_, turn_tuple a _, ⟨_, Heap.get?_push_size _ rfl, rfl, rfl⟩, new, q⟩
    exact J.kept (t' := u.toks) fun c r z => Heap.get?_push_of_some _ z
/-- a list or a tuple of ints -/
def SeqI (K : PySem.W.Frag) (H : Hp) (a : Addr) (ns : List Int) : Prop := SqL K H a (ns.map V.int) ∨ SqT K H a (ns.map V.int)
theorem SeqI.same {K : PySem.W.Frag} {H H' : Hp} {a : Addr} {ns : List Int} (h : SeqI K H a ns) (s : Same H H') : SeqI K H' a ns := h.imp (s.seq ·) (fun h => (Fz.of_same s).sqT h)
theorem take_int {ns : List Int} {i : Nat} {x : V} (h : (ns.map V.int)[i]? = some x) : ∃ n, x = .int n ∧ ns.take (i + 1) = ns.take i ++ [n] := by
  obtain ⟨n, hn, rfl⟩ := map_int_get h
  exact ⟨n, rfl, take_snoc hn⟩
/-- {n: True for n in a} -/
theorem dset {K : PySem.W.Frag} {a : Addr} {ns : List Int} {te : TE} {sl : Nat} {σ : L2.St} {H : Hp} {Q : VK} (hte : ∀ R : VK, R (.ref a) H → te σ H R) (hl : sl < σ.length) (hS : SeqI K H a ns) (hn : ns.length ≤ 1000)
    (k : ∀ D H', H D = none → Same H H' → SetI H' D ns → Q (.ref D) H') : tDc (iSeqA K te) (gName sl) tYes (tVar sl) (tC (.bl true)) [sl] σ H Q := by
  have turn : ∀ (D : Addr), H D = none → ∀ j x Hc H', j < (ns.map V.int).length → (SetI Hc D (ns.take j) ∧ Same H Hc) → YAt (ns.map V.int) j Hc x H' → gName sl x (wipe σ [sl]) H' fun σ1 H1 => wipe σ1 [sl] = wipe σ [sl] ∧ tYes σ1 H1 fun c H2 =>
      if c = true then tVar sl σ1 H2 fun y H3 => tC (.bl true) σ1 H3 fun z H4 => ∃ ks k, y = kV k ∧ H4 D = some (.dK ks) ∧ ks.length < sizeLine ∧ (SetI (upd H4 D (.dK (putK ks k z))) D (ns.take (j + 1)) ∧ Same H (upd H4 D (.dK (putK ks k z)))) else (SetI H2 D (ns.take (j + 1)) ∧ Same H H2) := by
    intro D hD j x Hc H' hj hR hy
    obtain ⟨rfl, hx⟩ := hy
    obtain ⟨n, rfl, tk⟩ := take_int hx
    obtain ⟨⟨kvs, hk, kk⟩, sc⟩ := hR
    refine ⟨by simp [wipe, List.set_set], ?_⟩
    dsimp only [tYes]
    rw [if_pos rfl]
    refine ⟨.int n, by simp [wipe, List.getElem?_set, hl], kvs, .inl n, rfl, hk, ?_, ?_, ?_⟩
    · have := kk.2
      rw [List.length_take] at this
      exact szl (by omega)
    · rw [tk]
      exact ⟨_, upd_same, kk.snoc n _⟩
    · exact same_lst sc hD
  refine hte _ ⟨a, rfl, ?_⟩
  rcases hS with hS | hS
  · refine .inl ⟨_, hS, fun D hD => dc_it walk_list (fun i Hc => SetI Hc D (ns.take i) ∧ Same H Hc) ⟨⟨[], upd_same, KeysI.nil⟩, same_new hD⟩ (fun i Hc _ hR => hR.2.seq hS) (turn D hD) (fun Hc hR => ?_)⟩
    rw [List.length_map, List.take_length] at hR
    exact k D Hc hD hR.2 hR.1
  · refine .inr ⟨_, hS, fun D hD => dc_it walk_tup (fun i Hc => SetI Hc D (ns.take i) ∧ Same H Hc) ⟨⟨[], upd_same, KeysI.nil⟩, same_new hD⟩ (fun i Hc _ hR => (Fz.of_same hR.2).sqT hS) (turn D hD) (fun Hc hR => ?_)⟩
    rw [List.length_map, List.take_length] at hR
    exact k D Hc hD hR.2 hR.1
theorem asg_go {te : TE} {g : V → L2.St → Hp → (L2.St → Hp → Prop) → Prop} {rest : TS} {D : Ends} {σ : L2.St} {H : Hp} (h : te σ H (fun x H1 => g x σ H1 (fun σ2 H2 => rest D σ2 H2))) : tSeq (tAsg te g) rest D σ H := h
/-- [e for n in a], the e of a bool each, nothing written -/
theorem lmap {K : PySem.W.Frag} {a : Addr} {ns : List Int} {te el : TE} {sl : Nat} {σ : L2.St} {H : Hp} {Q : VK} (f : Int → Bool) (hte : ∀ R : VK, R (.ref a) H → te σ H R) (hS : SeqI K H a ns) (hn : ns.length ≤ 1000)
    (helt : ∀ n Hc (R : VK), n ∈ ns → Same H Hc → R (.bl (f n)) Hc → el ((wipe σ [sl]).set sl (some (.int n))) Hc R)
    (k : ∀ D H', H D = none → Same H H' → H' D = some (.lst ((ns.map f).map V.bl)) → Q (.ref D) H') : tLc (iSeqA K te) (gName sl) tYes el [sl] σ H Q := by
  have turn : ∀ (D : Addr), H D = none → ∀ j x Hc H', j < (ns.map V.int).length → (Hc D = some (.lst (((ns.take j).map f).map V.bl)) ∧ Same H Hc) → YAt (ns.map V.int) j Hc x H' → gName sl x (wipe σ [sl]) H' fun σ1 H1 => wipe σ1 [sl] = wipe σ [sl] ∧ tYes σ1 H1 fun c H2 =>
      if c = true then el σ1 H2 fun y H3 => ∃ acc, H3 D = some (.lst acc) ∧ acc.length < sizeLine ∧ (upd H3 D (.lst (acc ++ [y])) D = some (.lst (((ns.take (j + 1)).map f).map V.bl)) ∧ Same H (upd H3 D (.lst (acc ++ [y])))) else (H2 D = some (.lst (((ns.take (j + 1)).map f).map V.bl)) ∧ Same H H2) := by
    intro D hD j x Hc H' hj hR hy
    obtain ⟨rfl, hx⟩ := hy
    obtain ⟨n, rfl, tk⟩ := take_int hx
    obtain ⟨hk, sc⟩ := hR
    refine ⟨by simp [wipe, List.set_set], ?_⟩
    dsimp only [tYes]
    rw [if_pos rfl]
    refine helt n _ _ (List.mem_of_mem_take (i := j + 1) (by rw [tk]; simp)) sc ⟨_, hk, ?_, ?_, ?_⟩
    · rw [List.length_map, List.length_map, List.length_take]
      exact szl (by omega)
    · rw [tk, upd_same, List.map_append, List.map_append]
      rfl
    · exact same_lst sc hD
  refine hte _ ⟨a, rfl, ?_⟩
  rcases hS with hS | hS
  · refine .inl ⟨_, hS, fun D hD => lc_it walk_list (fun i Hc => Hc D = some (.lst (((ns.take i).map f).map V.bl)) ∧ Same H Hc) ⟨upd_same, same_new hD⟩ (fun i Hc _ hR => hR.2.seq hS) (turn D hD) (fun Hc hR => ?_)⟩
    rw [List.length_map, List.take_length] at hR
    exact k D Hc hD hR.2 hR.1
  · refine .inr ⟨_, hS, fun D hD => lc_it walk_tup (fun i Hc => Hc D = some (.lst (((ns.take i).map f).map V.bl)) ∧ Same H Hc) ⟨upd_same, same_new hD⟩ (fun i Hc _ hR => (Fz.of_same hR.2).sqT hS) (turn D hD) (fun Hc hR => ?_)⟩
    rw [List.length_map, List.take_length] at hR
    exact k D Hc hD hR.2 hR.1
theorem b_go {r : List V → Hp → VK → Prop} {te : TE} {σ : L2.St} {H : Hp} {Q : Bool → Hp → Prop} (h : te σ H (fun x H1 => r [x] H1 (fun z H2 => ∃ c, z = .bl c ∧ Q c H2))) : tB (tCB r (tCons te tNil)) σ H Q := h
theorem all_id {ns : List Int} {f : Int → Bool} : (ns.map f).all id = ns.all f := by simp [List.all_map]
/-- a list == [] -/
def rEqNil (K : PySem.W.Frag) : R2 := fun x y H Q => ∃ l b xs, x = .ref l ∧ y = .ref b ∧ SqL K H l xs ∧ SqL K H b [] ∧ Q (.bl xs.isEmpty) H
theorem op_eqNil {X : Cx} (hu : X.A.units + 1 < cLine) : OpR X (compareOp .Eq) (rEqNil X.K) := by
  intro pins s σ H x y v u Q I rx ry h
  obtain ⟨l, b, xs, rfl, rfl, h1, h2, q⟩ := h
  cases (show v = Value.ref l from rx)
  cases (show u = Value.ref b from ry)
  obtain ⟨its, rv, p1, _⟩ := I.list h1
  obtain ⟨its2, rv2, p2, _⟩ := I.list h2
  cases rv2
  have hu0 : X.A.units < cLine := by omega
  show wpAny _ _ (richCompare .Eq (.ref l) (.ref b)) _ _ _
  cases rv with
  | nil => exact SeqAt.RcAt.lists (e := fun _ => true) p1.isList p2.isList rfl hu0 (fun j h1 h2 => absurd h1 (by simp)) _ _ _ _ ⟨.bl _, H, I, rfl, q⟩
  | cons r t => exact SeqAt.RcAt.lists_lengths p1.isList p2.isList (by simp) hu0 _ _ _ _ ⟨.bl _, H, I, rfl, q⟩
/-- [a draw for _ in range(a draw)] -/
theorem ldraw {b : Addr} {targ : TA} {el : TE} {sl : Nat} {σ : L2.St} {H : Hp} {Q : VK} {lo hi : Int} (harg : ∀ R : List V → Hp → Prop, (∀ m H1, 0 ≤ m → m ≤ 100 → Box H1 b → But b H H1 → R [.int m] H1) → targ σ H R)
    (helt : ∀ x Hc (R : VK), Box Hc b → (∀ n H1, lo ≤ n → n < hi → Box H1 b → But b Hc H1 → R (.int n) H1) → el ((wipe σ [sl]).set sl (some x)) Hc R)
    (k : ∀ D (ns : List Int) H', H D = none → D ≠ b → H' D = some (.lst (ns.map V.int)) → ns.length ≤ 100 → (∀ n ∈ ns, lo ≤ n ∧ n < hi) → Box H' b → But b H H' → Q (.ref D) H') : tLc (iRng1 targ) (gName sl) tYes el [sl] σ H Q := by
  refine harg _ fun m H1 m0 m1 B1 k1 => ⟨m, rfl, by omega, by omega, fun D hD => ?_⟩
  have neD : D ≠ b := B1.ne_none hD
  refine lc_range (fun i Hc => ∃ ns : List Int, Hc D = some (.lst (ns.map V.int)) ∧ ns.length = i ∧ (∀ n ∈ ns, lo ≤ n ∧ n < hi) ∧ Box Hc b ∧ But b H1 Hc) ⟨[], upd_same, rfl, (fun n h => nomatch h), B1.same (same_new hD), But.of_same (same_new hD)⟩ (fun i Hc hi hP => ?_) (fun Hc hP => ?_)
  · obtain ⟨ns, hDc, hl, hns, Bc, kc⟩ := hP
    refine ⟨by simp [wipe, List.set_set], ?_⟩
    dsimp only [tYes]
    rw [if_pos rfl]
    refine helt _ _ _ Bc fun n H2 n0 n1 B2 k2 => ⟨_, k2 _ _ neD hDc, ?_, ns ++ [n], ?_, ?_, ?_, box_ne B2 neD, but_new (kc.trans k2) hD⟩
    · rw [List.length_map]
      exact szl (by omega)
    · rw [upd_same, List.map_append]
      rfl
    · rw [List.length_append, hl]
      rfl
    · intro x hx
      rcases List.mem_append.mp hx with h | h
      · exact hns x h
      · rw [List.mem_singleton] at h
        subst h
        exact ⟨n0, n1⟩
  · obtain ⟨ns, hDc, hl, hns, Bc, kc⟩ := hP
    exact k D ns Hc (k1.free neD hD) neD hDc (by omega) hns Bc (k1.trans kc)
theorem if_go {tt : TT} {ta tb : TE} {σ : L2.St} {H : Hp} {Q : VK} (h : tt σ H fun c H1 => if c = true then ta σ H1 Q else tb σ H1 Q) : tIf tt ta tb σ H Q := h
theorem cb_go {r : List V → Hp → VK → Prop} {te : TE} {σ : L2.St} {H : Hp} {Q : VK} (h : te σ H (fun x H1 => r [x] H1 Q)) : tCB r (tCons te tNil) σ H Q := h
end Rs
/-! v in o, v not in o by an own __contains__; what is_whole says of anything. -/
namespace Rs
open PySem PySem.Spec PyProof.Rows L2
section
variable {X : Cx} {CX : CXT} {C g : Addr} {n : Nat} {sp : Sp} {E : XK}
def rInM (C : Addr) (neg : Bool) (sp : Sp) (E : XK) : R2 := fun v y H Q => ∃ a dx fs, y = .ref a ∧ H a = some (.ins C dx fs) ∧ sp [.ref a, v] H (fun z H' => ∃ r, z = .bl r ∧ Q (.bl (if neg then !r else r)) H') E
theorem op_inM (M : Meth X.K C "__contains__" g) (F : FnR X.prog X.w X.K X.mg X.base CX n g sp) (hr : Room n X.A) (hx : Passes CX X E) : OpR X (compareOp .In) (rInM C false sp E) := by
  intro pins s σ H x y v u Q I rx ry h
  obtain ⟨a, dx, fs, rfl, ha, q⟩ := h
  cases (show u = Value.ref a from ry)
  obtain ⟨ox, od, J⟩ := ins_at I ha
  obtain ⟨m, hF⟩ := I.fr
  refine PySem.W.in_K hF I.ok.mod.kin J M.at_ M.fn ?_
  refine wpAny_mono (wpAny_call (run_fnR (us := [.ref a, v]) (vs := [.ref a, x]) F hr hx I (.cons rfl (.cons rx .nil)) q)) (fun w s' z => ?_) fun _ _ x => x
  obtain ⟨z', H', I', rz, r, ez, qz⟩ := z
  subst ez
  cases (show w = Value.bool r from rz)
  exact wpAny_truthy_bool ⟨.bl r, H', I', rfl, qz⟩
theorem op_notInM (M : Meth X.K C "__contains__" g) (F : FnR X.prog X.w X.K X.mg X.base CX n g sp) (hr : Room n X.A) (hx : Passes CX X E) : OpR X (compareOp .NotIn) (rInM C true sp E) := by
  intro pins s σ H x y v u Q I rx ry h
  obtain ⟨a, dx, fs, rfl, ha, q⟩ := h
  cases (show u = Value.ref a from ry)
  obtain ⟨ox, od, J⟩ := ins_at I ha
  obtain ⟨m, hF⟩ := I.fr
  refine PySem.W.notIn_K hF I.ok.mod.kin J M.at_ M.fn ?_
  refine wpAny_mono (wpAny_call (run_fnR (us := [.ref a, v]) (vs := [.ref a, x]) F hr hx I (.cons rfl (.cons rx .nil)) q)) (fun w s' z => ?_) fun _ _ x => x
  obtain ⟨z', H', I', rz, r, ez, qz⟩ := z
  subst ez
  cases (show w = Value.bool r from rz)
  exact wpAny_truthy_bool ⟨.bl (!r), H', I', rfl, qz⟩
end
theorem inV_int {n : Int} {ns : List Int} : inV (.int n) (ns.map V.int) = decide (n ∈ ns) := by
  induction ns with
  | nil => rfl
  | cons m ns ih =>
    unfold inV at ih ⊢
    rw [List.map_cons, List.any_cons, ih]
    show ((m == n) || decide (n ∈ ns)) = decide (n ∈ m :: ns)
    by_cases h : m = n
    · subst h
      simp
    · have h' : ¬ n = m := fun e => h e.symm
      simp [h, h']
theorem flat_ints {ns : List Int} : (ns.map V.int).all flatV = true := by
  induction ns with
  | nil => rfl
  | cons m ns ih =>
    rw [List.map_cons, List.all_cons, ih]
    rfl
/-- what is_whole says of a value: the integer that it is, if it is one -/
def IsV (K : PySem.W.Frag) (H : Hp) (v : V) (o : Option Int) : Prop := ∃ t r, TyX K H v t ∧ PySem.W.kitOne K t (.type "int") = some r ∧ (r = false → o = none) ∧
  (r = true → ∃ c, PySem.W.kitOne K t (.type "bool") = some c ∧ (c = true → o = none) ∧ (c = false → ∃ i, v = .int i ∧ o = some i))
def wholeV : V → Option Int
  | .int i => some i
  | _ => none
theorem Sh.isV {K : PySem.W.Frag} {b : Addr} {H : Hp} {v : V} (h : Sh b H v) : IsV K H v (wholeV v) := by
  obtain ⟨t, ty, ki, kb⟩ := h.ty (K := K)
  refine ⟨_, _, ty, kit_ty ki, fun e => ?_, fun e => ⟨_, kit_ty kb, fun e2 => ?_, fun e2 => ?_⟩⟩
  · cases v <;> first | rfl | exact absurd e (by simp [isInt])
  · cases v <;> first | rfl | exact absurd e2 (by simp [isBl])
  · cases v with
    | int i => exact ⟨i, rfl, rfl⟩
    | bl c => exact absurd e2 (by simp [isBl])
    | _ => exact absurd e (by simp [isInt, isBl])
theorem kit_own_int {K : PySem.W.Frag} {C : Addr} (N : OwnN K C) : PySem.W.kitOne K (.ref C) (.type "int") = some false := by
  have hm : PySem.W.kitMeta "int" = true := by decide +kernel
  have hs : PySem.W.subIn K (.ref C) (.type "int") = some false := N.it
  unfold PySem.W.kitOne PySem.W.kitCls
  simp [hm, hs]
theorem isV_own {K : PySem.W.Frag} {C x dx : Addr} {fs : List (Str × V)} {H : Hp} (I : OwnI K C) (c : Cls K C) (N : OwnN K C) (h : H x = some (.ins C dx fs)) : IsV K H (.ref x) none :=
  ⟨_, false, I.ty c h, kit_own_int N, fun _ => rfl, fun e => nomatch e⟩
end Rs
/-! ~o, o & p and the like by own methods; what stays of written and unwritten lists when one instance changes. -/
namespace Rs
open PySem PySem.Spec PyProof.Rows L2
section
variable {X : Cx} {CX : CXT} {C g : Addr} {n : Nat} {sp : Sp} {E : XK}
def rUnM (C : Addr) (sp : Sp) (E : XK) : V → Hp → VK → Prop := fun x H Q => ∃ a dx fs, x = .ref a ∧ H a = some (.ins C dx fs) ∧ sp [.ref a] H Q E
theorem un_invM (M : Meth X.K C "__invert__" g) (F : FnR X.prog X.w X.K X.mg X.base CX n g sp) (hr : Room n X.A) (hx : Passes CX X E) : UnR X (unaryOp .Invert) (rUnM C sp E) := by
  intro pins s σ H x v Q I rx h
  obtain ⟨a, dx, fs, rfl, ha, q⟩ := h
  cases (show v = Value.ref a from rx)
  obtain ⟨ox, od, J⟩ := ins_at I ha
  obtain ⟨m, hF⟩ := I.fr
  exact PySem.W.ksp_inv hF I.ok.mod.kin J M.at_ M.fn (wpAny_call (run_fnR (us := [.ref a]) (vs := [.ref a]) F hr hx I (.cons rfl .nil) q))
end
/-- a list that an instance's change leaves -/
theorem SeqI.but {K : PySem.W.Frag} {H F : Hp} {a x C dx : Addr} {gs : List (Str × V)} {ns : List Int} (h : SeqI K H a ns) (hx : H x = some (.ins C dx gs)) (k : But x H F) : SeqI K F a ns := by
  have ne : ∀ o, H a = some o → (∀ C dx gs, o ≠ .ins C dx gs) → a ≠ x := fun o e no z => by
    subst z
    rw [hx] at e
    injection e with e
    exact no _ _ _ e.symm
  rcases h with h | h
  · rcases h with (h | ⟨o, h⟩) | h
    · exact .inl (.inl (.inl (k _ _ (ne _ h (fun _ _ _ e => nomatch e)) h)))
    · exact .inl (.inl (.inr ⟨o, k _ _ (ne _ h (fun _ _ _ e => nomatch e)) h⟩))
    · exact .inl (.inr h)
  · rcases h with (h | ⟨o, h⟩) | h
    · exact .inr (.inl (.inl (k _ _ (ne _ h (fun _ _ _ e => nomatch e)) h)))
    · exact .inr (.inl (.inr ⟨o, k _ _ (ne _ h (fun _ _ _ e => nomatch e)) h⟩))
    · exact .inr (.inr h)
theorem sqL_ty {K : PySem.W.Frag} {H : Hp} {a : Addr} {xs : List V} (h : SqL K H a xs) : (∃ t, TyX K H (.ref a) t ∧ (t = .type "list")) ∨ ∃ o, H a = some (.frz o (.lst xs)) := by
  rcases h with (h | ⟨o, h⟩) | ⟨o, its, n, h1, h2, _⟩
  · exact .inl ⟨_, .base (.lst h), rfl⟩
  · exact .inr ⟨o, h⟩
  · exact .inl ⟨_, .kList h1 h2, rfl⟩
/-- e.f within a comprehension -/
theorem pe_fldK {X : Cx} {K : PySem.W.Frag} {ex : Expr} {f : Str} {pos : Pos} {ta : TE} (e : X.K = K) (he : PE X ex ta) (hb : attributeBase ex f X.env (eval ex X.env) = eval ex X.env) : PE X (.Attribute ex f pos) (tFld K ta f) := by
  subst e
  exact pe_fld he hb
theorem szL2 {n : Nat} (h : n ≤ 100000) : n < sizeLine := Nat.lt_of_le_of_lt h (by rw [sizeLine_eq]; decide)
theorem ix_listK {X : Cx} {K : PySem.W.Frag} (e : X.K = K) : IxR X (rIxL K) := by
  subst e
  exact ix_list
theorem ix_tupK {X : Cx} {K : PySem.W.Frag} (e : X.K = K) : IxR X (rIxT K) := by
  subst e
  exact ix_tup
/-- return f(e, ..): the first argument first -/
theorem retc_go {sp : Sp} {ds : List V} {E : XK} {te : TE} {ta : TA} {D : Ends} {σ : L2.St} {H : Hp} (h : te σ H (fun x H1 => ta σ H1 fun xs H2 => sp ((x :: xs) ++ ds) H2 D.rt E)) : tRet (tCall sp ds E (tCons te ta)) D σ H := h
theorem ret_go {te : TE} {D : Ends} {σ : L2.St} {H : Hp} (h : te σ H D.rt) : tRet te D σ H := h
/-- [n for n in a if f n] over a tuple of ints -/
theorem lfilt {K : PySem.W.Frag} {a : Addr} {ns : List Int} {te : TE} {tt : TT} {sl : Nat} {σ : L2.St} {H : Hp} {Q : VK} (f : Int → Bool) (hte : ∀ R : VK, R (.ref a) H → te σ H R) (hS : SqT K H a (ns.map V.int)) (hl : sl < σ.length) (ln : ns.length ≤ 3000)
    (htt : ∀ n Hc (R : Bool → Hp → Prop), Same H Hc → R (f n) Hc → tt ((wipe σ [sl]).set sl (some (.int n))) Hc R)
    (k : ∀ D H', H D = none → Same H H' → H' D = some (.lst ((ns.filter f).map V.int)) → Q (.ref D) H') : tLc (iTup K te) (gName sl) tt (tVar sl) [sl] σ H Q := by
  refine hte _ ⟨a, rfl, ⟨_, hS⟩, fun D hD => lc_it walk_tup (fun i Hc => Hc D = some (.lst (((ns.take i).filter f).map V.int)) ∧ Same H Hc) ⟨upd_same, same_new hD⟩ (fun i Hc _ hR => (Fz.of_same hR.2).sqT hS) (fun j x Hc H' hj hR hy => ?_) (fun Hc hR => ?_)⟩
  · obtain ⟨rfl, hx⟩ := hy
    obtain ⟨n, rfl, tk⟩ := take_int hx
    obtain ⟨hDc, sc⟩ := hR
    refine ⟨by simp [wipe, List.set_set], htt n _ _ sc ?_⟩
    refine ifB (fun g => ?_) (fun g => ?_)
    · refine ⟨.int n, by simp [wipe, List.getElem?_set, hl], _, hDc, ?_, ?_, same_lst sc hD⟩
      · rw [List.length_map]
        have := List.length_filter_le f (ns.take j)
        rw [List.length_take] at this
        exact szL2 (by omega)
      · rw [upd_same, tk, List.filter_append, List.filter_cons, g, List.map_append]
        rfl
    · refine ⟨?_, sc⟩
      rw [tk, List.filter_append, List.filter_cons, g]
      simpa using hDc
  · rw [List.length_map, List.take_length] at hR
    exact k D Hc hD hR.2 hR.1
theorem at_head {y : Int} {t : List Int} : atI ((y :: t).map V.int) 0 = some (.int y) := atI_ok (by decide) rfl rfl
theorem op_in_seqK {X : Cx} {K : PySem.W.Frag} (e : X.K = K) : OpR X (compareOp .In) (rIn K false) := by
  subst e
  exact op_in_seq
/-- [n for n in range(lo, hi) if f n] -/
theorem lcond {targ : TA} {tt : TT} {sl : Nat} {σ : L2.St} {H : Hp} {Q : VK} {lo hi : Int} (f : Int → Bool) (b1 : -1000 ≤ lo) (b2 : lo ≤ 3000) (b3 : -1000 ≤ hi) (b4 : hi ≤ 3000) (harg : ∀ R : List V → Hp → Prop, R [.int lo, .int hi] H → targ σ H R) (hl : sl < σ.length)
    (htt : ∀ n Hc (R : Bool → Hp → Prop), lo ≤ n → n < hi → Same H Hc → R (f n) Hc → tt ((wipe σ [sl]).set sl (some (.int n))) Hc R)
    (k : ∀ D H', H D = none → Same H H' → H' D = some (.lst ((((List.range (hi - lo).toNat).map fun i : Nat => lo + (i : Int)).filter f).map V.int)) → Q (.ref D) H') : tLc (iRng2 targ) (gName sl) tt (tVar sl) [sl] σ H Q := by
  refine harg _ ⟨lo, hi, rfl, by omega, fun D hD => ?_⟩
  refine lc_range (fun i Hc => Hc D = some (.lst ((((List.range i).map fun i : Nat => lo + (i : Int)).filter f).map V.int)) ∧ Same H Hc) ⟨upd_same, same_new hD⟩ (fun i Hc hi' hP => ?_) (fun Hc hP => k D Hc hD hP.2 hP.1)
  obtain ⟨hDc, sc⟩ := hP
  refine ⟨by simp [wipe, List.set_set], htt _ _ _ (by omega) (by omega) sc ?_⟩
  have z : ((List.range (i + 1)).map fun i : Nat => lo + (i : Int)).filter f = ((List.range i).map fun i : Nat => lo + (i : Int)).filter f ++ (if f (lo + (i : Int)) = true then [lo + (i : Int)] else []) := by
    rw [range_succ_map, List.filter_append, List.filter_cons, List.filter_nil]
  refine ifB (fun g => ?_) (fun g => ?_)
  · rw [if_pos g] at z
    refine ⟨.int (lo + (i : Nat)), by simp [wipe, List.getElem?_set, hl], _, hDc, ?_, ?_, same_lst sc hD⟩
    · rw [List.length_map]
      have := List.length_filter_le f ((List.range i).map fun i : Nat => lo + (i : Int))
      rw [List.length_map, List.length_range] at this
      exact szL2 (by omega)
    · rw [upd_same, z, List.map_append]
      rfl
  · rw [if_neg (by rw [g]; exact Bool.false_ne_true), List.append_nil] at z
    rw [z]
    exact ⟨hDc, sc⟩
section
variable {σ : L2.St} {H : Hp}
theorem tst_go {r : R2} {ta tb : TE} {Q : Bool → Hp → Prop} (h : ta σ H fun x H1 => tb σ H1 fun y H2 => r x y H2 fun z H3 => ∃ k, z = .bl k ∧ Q k H3) : tTest (tOp r ta tb) σ H Q := h
theorem or_go {t u : TT} {Q : Bool → Hp → Prop} (h : t σ H fun c H1 => if c = true then Q true H1 else u σ H1 Q) : tOr t u σ H Q := h
theorem prop_go {C : Addr} {sp : Sp} {E : XK} {ta : TE} {Q : VK} (h : ta σ H fun x H1 => ∃ a dx fs, x = .ref a ∧ H1 a = some (.ins C dx fs) ∧ sp [.ref a] H1 Q E) : tProp C sp [] E ta σ H Q := h
theorem opl_go {r : R2} {ta tb : TE} {Q : VK} (h : ta σ H fun x H1 => tb σ H1 fun y H2 => r x y H2 Q) : tOp r ta tb σ H Q := h
theorem un_go {r : V → Hp → VK → Prop} {ta : TE} {Q : VK} (h : ta σ H fun x H1 => r x H1 Q) : tUn r ta σ H Q := h
theorem seqif_go {c : TT} {t u rest : TS} {D : Ends} (h : c σ H fun b H1 => if b = true then t { D with nx := fun σ2 H2 => rest D σ2 H2 } σ H1 else u { D with nx := fun σ2 H2 => rest D σ2 H2 } σ H1) : tSeq (tIfS c t u) rest D σ H := h
end
end Rs
/-! o & p, o <= p and the like by own methods, both of one class. -/
namespace Rs
open PySem PySem.Spec PyProof.Rows L2
section
variable {X : Cx} {CX : CXT} {C g : Addr} {n : Nat} {sp : Sp} {E : XK}
/-- x op y by the class's own method, both instances of the class at C; the answer is not NotImplemented: no value here is -/
def rBinM (C : Addr) (sp : Sp) (E : XK) : R2 := fun x y H Q => ∃ a dx fs b dy gs, x = .ref a ∧ y = .ref b ∧ H a = some (.ins C dx fs) ∧ H b = some (.ins C dy gs) ∧ sp [x, y] H Q E
theorem op_binM {op : Operator} (M : Meth X.K C (dunder op.info.snd) g) (hc : PySem.W.selfFirst X.K C = true) (F : FnR X.prog X.w X.K X.mg X.base CX n g sp) (hr : Room n X.A) (hx : Passes CX X E) : OpR X (binaryOp op) (rBinM C sp E) := by
  intro pins s σ H x y v u Q I rx ry h
  obtain ⟨a, dx, fs, b, dy, gs, rfl, rfl, ha, hb, q⟩ := h
  cases (show v = Value.ref a from rx)
  cases (show u = Value.ref b from ry)
  obtain ⟨ox, od, J⟩ := ins_at I ha
  obtain ⟨oy, ody, Jb⟩ := ins_at I hb
  obtain ⟨m, hF⟩ := I.fr
  refine PySem.W.binop_K hF I.ok.mod.kin J Jb.type hc M.at_ M.fn ?_
  refine wpAny_mono (wpAny_call (run_fnR (us := [.ref a, .ref b]) (vs := [.ref a, .ref b]) F hr hx I (.cons rfl (.cons rfl .nil)) q)) (fun w s' z => ?_) fun _ _ x => x
  obtain ⟨z', H', I', rz, qz⟩ := z
  exact SlX.cmpback rz ⟨z', H', I', rz, qz⟩
/-- x <= y and the like -/
theorem op_cmpM {op : CmpOp} (ho : compareOp op = richCompare op) (M : Meth X.K C ((cmpInfo op).snd.fst) g) (F : FnR X.prog X.w X.K X.mg X.base CX n g sp) (hr : Room n X.A) (hx : Passes CX X E) : OpR X (compareOp op) (rBinM C sp E) := by
  intro pins s σ H x y v u Q I rx ry h
  obtain ⟨a, dx, fs, b, dy, gs, rfl, rfl, ha, hb, q⟩ := h
  cases (show v = Value.ref a from rx)
  cases (show u = Value.ref b from ry)
  obtain ⟨ox, od, J⟩ := ins_at I ha
  obtain ⟨oy, ody, Jb⟩ := ins_at I hb
  obtain ⟨m, hF⟩ := I.fr
  rw [ho]
  refine PySem.W.cmp_K (op := op) (tb := .ref C) hr.units0 hF I.ok.mod.kin J Jb.type notFirst_self M.at_ M.fn ?_
  refine wpAny_mono (wpAny_call (run_fnR (us := [.ref a, .ref b]) (vs := [.ref a, .ref b]) F hr hx I (.cons rfl (.cons rfl .nil)) q)) (fun w s' z => ?_) fun _ _ x => x
  obtain ⟨z', H', I', rz, qz⟩ := z
  exact SlX.cmpback rz ⟨z', H', I', rz, qz⟩
theorem cmpLe : compareOp .LtE = richCompare .LtE := rfl
theorem cmpLt : compareOp .Lt = richCompare .Lt := rfl
theorem cmpGe : compareOp .GtE = richCompare .GtE := rfl
theorem cmpGt : compareOp .Gt = richCompare .Gt := rfl
end
end Rs
/-! list(zip(a, b)) of two lists. -/
namespace Rs
open PySem PySem.Spec PyProof.Rows L2
theorem wpAny_alive {M : Model} {A : Around} {E : Value → Shared → Prop} {s : Shared} {a : Addr} {Q : Option Obj → Shared → Prop} (h : Q (s.heap.get? a) s) : wpAny M A (Sem.loadIfAlive a Sem.pure) Q E s := by
  intro Γ p hΓ
  rw [Sem.wp_loadIfAlive]
  exact h
def zipO (T0 : Addr) (t : Tok) (fl : Bool) (TI TO : Addr) : Obj := { cls := .type "zip", data := .fields #[.int (T0 : Int) t, .bool fl, .bool false, .ref TI, .ref TO] }
section
variable {prog : Program} {w : World} {A : Around} {E : Value → Shared → Prop} {z TI TO i1 i2 l1 l2 T0 : Addr} {k : Nat} {xs ys : Array Value} {x y a b : Value} {o : Obj} {t : Tok} 
theorem draw1 {s : Shared} {it l : Addr} (hA : A.handled = none) (ne : l ≠ it) (h1 : s.heap.IsListIter it l k) (h2 : s.heap.IsList l xs) (hx : xs[k]? = some x) {Q : Value → Shared → Prop}
    (q : ∀ h' tk, h'.IsListIter it l (k + 1) → Heap.SameBut it s.heap h' → Q x { heap := h', gens := s.gens, drawn := s.drawn, toks := tk, os := s.os }) : wpAny (model prog w) A (Builtin.SmallTypes.nextOf (.ref it)) Q E s := by
  have lt : k < xs.size := by
    rcases Nat.lt_or_ge k xs.size with h | h
    · exact h
    · rw [Array.getElem?_eq_none h] at hx
      cases hx
  refine (Draws.list (prog := prog) (w := w) hA it l ne xs).item k s Q E lt ⟨h1, h2⟩ (fun v h' tk hv st sb => ?_)
  rw [hx] at hv
  injection hv with hv
  subst hv
  exact q h' tk st.1 sb
theorem iter_but {h h' : Heap} {c it l : Addr} {i : Nat} (sb : Heap.SameBut c h h') (ne : it ≠ c) (q : h.IsListIter it l i) : h'.IsListIter it l i := by
  obtain ⟨o, e, r⟩ := q
  exact ⟨o, by rw [sb.2 _ ne]; exact e, r⟩
theorem list_but {h h' : Heap} {c l : Addr} {xs : Array Value} (sb : Heap.SameBut c h h') (ne : l ≠ c) (q : h.IsList l xs) : h'.IsList l xs := by
  obtain ⟨o, e, r⟩ := q
  exact ⟨o, by rw [sb.2 _ ne]; exact e, r⟩
theorem owned_no {s : Shared} {fl : Bool} {Q : Bool → Shared → Prop}
    (hz : s.heap.get? z = some { cls := .type "zip", data := .fields #[.int (T0 : Int) t, .bool fl, .bool false, .ref TI, .ref TO] }) (hT : s.heap.get? T0 = some o)
    (q : ∀ h', h'.get? z = some { cls := .type "zip", data := .fields #[.int (T0 : Int) t, .bool true, .bool false, .ref TI, .ref TO] } → Heap.SameBut z s.heap h' →
      Q false { heap := h', gens := s.gens, drawn := s.drawn, toks := s.toks, os := s.os }) :
    wpAny (model prog w) A (Builtin.SmallTypes.ownedTupleIsFree (.ref z)) Q E s := by
  unfold Builtin.SmallTypes.ownedTupleIsFree
  refine wpAny_bind (wpAny_field hz rfl rfl ?_)
  dsimp only
  refine wpAny_bind (wpAny_alive ?_)
  rw [show ((T0 : Int)).toNat = T0 from Int.toNat_natCast T0, hT]
  rw [if_neg (by simp)]
  refine wpAny_bind (wpAny_field hz rfl rfl ?_)
  cases fl
  · split
    · refine wpAny_bind (wpAny_setField hz rfl (show 1 < 5 by decide) (wpAny_pure ?_))
      exact q _ (Heap.get?_update_self _ hz rfl) (Heap.SameBut.update _ _ _)
    · rename_i c
      exact absurd rfl c
  · split
    · rename_i c
      exact absurd c (by simp)
    · exact wpAny_pure (q s.heap hz ⟨rfl, fun _ _ => rfl⟩)
/-- one more pair, the elder one of the zip being held -/
theorem zip_again {s : Shared} {fl : Bool} {Q : PySem.Fin → Shared → Prop} (hA : A.handled = none) (ap : ZipApart z TI TO i1 i2 l1 l2)
    (hz : s.heap.get? z = some { cls := .type "zip", data := .fields #[.int (T0 : Int) t, .bool fl, .bool false, .ref TI, .ref TO] }) (hT : s.heap.get? T0 = some o)
    (hTI : s.heap.get? TI = some { cls := .type "tuple", data := .seq #[.ref i1, .ref i2] })
    (h1 : s.heap.IsListIter i1 l1 k) (h2 : s.heap.IsListIter i2 l2 k) (g1 : s.heap.IsList l1 xs) (g2 : s.heap.IsList l2 ys) (hx : xs[k]? = some x) (hy : ys[k]? = some y)
    (q : ∀ h' tk, h'.get? z = some { cls := .type "zip", data := .fields #[.int (T0 : Int) t, .bool true, .bool false, .ref TI, .ref TO] } → h'.IsListIter i1 l1 (k + 1) → h'.IsListIter i2 l2 (k + 1) →
      h'.get? s.heap.objs.size = some { cls := .type "tuple", data := .seq #[x, y] } → h'.objs.size = s.heap.objs.size + 1 →
      (∀ c o, c ≠ z → c ≠ i1 → c ≠ i2 → s.heap.get? c = some o → h'.get? c = some o) → Q (.done (.ret (.ref s.heap.objs.size))) { heap := h', gens := s.gens, drawn := s.drawn, toks := tk, os := s.os }) :
    wpAny (model prog w) A (Builtin.«zip.__next__» ⟨[.ref z], []⟩) Q E s := by
  unfold Builtin.«zip.__next__»
  repeat (first
    | (refine owned_no hz hT (fun h0 hz0 sb0 => ?_))
    | (refine draw1 hA ap.l2i2 (iter_but sb ap.i12.symm (iter_but sb0 ap.i2z h2)) (list_but sb ap.l2i1 (list_but sb0 ap.l2z g2)) hy (fun h3 tk3 j2 sb3 => ?_))
    | (refine draw1 hA ap.l1i1 (iter_but sb0 ap.i1z h1) (list_but sb0 ap.l1z g1) hx (fun h' tk j1 sb => ?_))
    | wp_step)
  have sz : h3.objs.size = s.heap.objs.size := sb3.1.trans (sb.1.trans sb0.1)
  have old : ∀ c o, c ≠ z → c ≠ i1 → c ≠ i2 → s.heap.get? c = some o → h3.get? c = some o := fun c o c1 c2 c3 h => by
    rw [sb3.2 c c3, sb.2 c c2, sb0.2 c c1]
    exact h
  have z3 : h3.get? z = some { cls := .type "zip", data := .fields #[.int (T0 : Int) t, .bool true, .bool false, .ref TI, .ref TO] } := by
    rw [sb3.2 z ap.i2z.symm, sb.2 z ap.i1z.symm]
    exact hz0
  rw [sz]
  refine q _ _ (Heap.get?_push_of_some _ z3) ?_ ?_ ?_ ?_ ?_
  · obtain ⟨o, e, r⟩ := iter_but sb3 ap.i12 j1
    exact ⟨o, Heap.get?_push_of_some _ e, r⟩
  · obtain ⟨o, e, r⟩ := j2
    exact ⟨o, Heap.get?_push_of_some _ e, r⟩
  · rw [← sz]
    exact Heap.get?_push_size _ rfl
  · rw [Heap.size_push, sz]
  · intro c o c1 c2 c3 h
    exact Heap.get?_push_of_some _ (old c o c1 c2 c3 h)
end
end Rs
namespace Rs
open PySem PySem.Spec PyProof.Rows L2
section
variable {prog : Program} {w : World} {A : Around} {E : Value → Shared → Prop} {z TI TO i1 i2 l1 l2 T0 : Addr} {k : Nat} {xs ys : Array Value} {x y a b : Value} {o : Obj} {t : Tok} 
theorem draw_end {s : Shared} {it l : Addr} (hA : A.handled = none) (ne : l ≠ it) (h1 : s.heap.IsListIter it l xs.size) (h2 : s.heap.IsList l xs) {Q : Value → Shared → Prop}
    (q : ∀ h' e, Heap.ExtBut it s.heap h' → (∃ o, h'.get? e = some o ∧ o.cls = .type "StopIteration") → E (.ref e) { heap := h', gens := s.gens, drawn := s.drawn, toks := s.toks, os := s.os }) : wpAny (model prog w) A (Builtin.SmallTypes.nextOf (.ref it)) Q E s :=
  (Draws.list (prog := prog) (w := w) hA it l ne xs).done s Q E ⟨h1, h2⟩ q
/-- the first list is at its end -/
theorem zip_over {s : Shared} {fl : Bool} {Q : PySem.Fin → Shared → Prop} (hA : A.handled = none) (ap : ZipApart z TI TO i1 i2 l1 l2)
    (hz : s.heap.get? z = some { cls := .type "zip", data := .fields #[.int (T0 : Int) t, .bool fl, .bool false, .ref TI, .ref TO] }) (hT : s.heap.get? T0 = some o)
    (hTI : s.heap.get? TI = some { cls := .type "tuple", data := .seq #[.ref i1, .ref i2] })
    (h1 : s.heap.IsListIter i1 l1 xs.size) (g1 : s.heap.IsList l1 xs)
    (q : ∀ h' e, (∀ c o, c ≠ z → c ≠ i1 → s.heap.get? c = some o → h'.get? c = some o) → (∃ o, h'.get? e = some o ∧ o.cls = .type "StopIteration") → E (.ref e) { heap := h', gens := s.gens, drawn := s.drawn, toks := s.toks, os := s.os }) :
    wpAny (model prog w) A (Builtin.«zip.__next__» ⟨[.ref z], []⟩) Q E s := by
  unfold Builtin.«zip.__next__»
  repeat (first
    | (refine owned_no hz hT (fun h0 hz0 sb0 => ?_))
    | (refine draw_end hA ap.l1i1 (iter_but sb0 ap.i1z h1) (list_but sb0 ap.l1z g1) (fun h' e ex ho => q h' e (fun c o c1 c2 h => ex c o c2 (by rw [sb0.2 c c1]; exact h)) ho))
    | wp_step)
theorem zip_next {s : Shared} {Q : Option Value → Shared → Prop} {fl : Bool} (hA : A.handled = none) (ap : ZipApart z TI TO i1 i2 l1 l2)
    (hz : s.heap.get? z = some { cls := .type "zip", data := .fields #[.int (T0 : Int) t, .bool fl, .bool false, .ref TI, .ref TO] }) (hT : s.heap.get? T0 = some o)
    (hTI : s.heap.get? TI = some { cls := .type "tuple", data := .seq #[.ref i1, .ref i2] })
    (h1 : s.heap.IsListIter i1 l1 k) (h2 : s.heap.IsListIter i2 l2 k) (g1 : s.heap.IsList l1 xs) (g2 : s.heap.IsList l2 ys) (hx : xs[k]? = some x) (hy : ys[k]? = some y)
    (q : ∀ h' tk, h'.get? z = some { cls := .type "zip", data := .fields #[.int (T0 : Int) t, .bool true, .bool false, .ref TI, .ref TO] } → h'.IsListIter i1 l1 (k + 1) → h'.IsListIter i2 l2 (k + 1) →
      h'.get? s.heap.objs.size = some { cls := .type "tuple", data := .seq #[x, y] } → h'.objs.size = s.heap.objs.size + 1 →
      (∀ c o, c ≠ z → c ≠ i1 → c ≠ i2 → s.heap.get? c = some o → h'.get? c = some o) → Q (some (.ref s.heap.objs.size)) { heap := h', gens := s.gens, drawn := s.drawn, toks := tk, os := s.os }) :
    wpAny (model prog w) A (pyNext (.ref z)) Q E s := by
  unfold pyNext
  refine wpAny_bind (wpAny_attempt (wpAny_callSpecial?_slot (T := "zip") ⟨_, hz, rfl⟩ F.slot_zip_next (wpAny_call (codeAny_call_builtin F.slot_zip_next.plain F.entry_zip_next ?_))))
  refine F.slot_zip_next.check _ _ _ s (.ref z) [] [] _ ⟨_, hz, rfl⟩ (F.args_zip_next_1 _) ?_
  exact zip_again (A := A.in1) hA ap hz hT hTI h1 h2 g1 g2 hx hy (fun h' tk a1 a2 a3 a4 a5 a6 => wpAny_pure (q h' tk a1 a2 a3 a4 a5 a6))
theorem zip_end {s : Shared} {Q : Option Value → Shared → Prop} {fl : Bool} (hA : A.handled = none) (ap : ZipApart z TI TO i1 i2 l1 l2)
    (hz : s.heap.get? z = some { cls := .type "zip", data := .fields #[.int (T0 : Int) t, .bool fl, .bool false, .ref TI, .ref TO] }) (hT : s.heap.get? T0 = some o)
    (hTI : s.heap.get? TI = some { cls := .type "tuple", data := .seq #[.ref i1, .ref i2] })
    (h1 : s.heap.IsListIter i1 l1 xs.size) (g1 : s.heap.IsList l1 xs)
    (q : ∀ h', (∀ c o, c ≠ z → c ≠ i1 → s.heap.get? c = some o → h'.get? c = some o) → Q none { heap := h', gens := s.gens, drawn := s.drawn, toks := s.toks, os := s.os }) :
    wpAny (model prog w) A (pyNext (.ref z)) Q E s := by
  unfold pyNext
  refine wpAny_bind (wpAny_attempt (wpAny_callSpecial?_slot (T := "zip") ⟨_, hz, rfl⟩ F.slot_zip_next (wpAny_call (codeAny_call_builtin F.slot_zip_next.plain F.entry_zip_next ?_))))
  refine F.slot_zip_next.check _ _ _ s (.ref z) [] [] _ ⟨_, hz, rfl⟩ (F.args_zip_next_1 _) ?_
  refine zip_over (A := A.in1) hA ap hz hT hTI h1 g1 (fun h' e old ho => ?_)
  obtain ⟨o, ho, hc⟩ := ho
  dsimp only
  refine wpAny_bind (wpAny_isInstance (T := "StopIteration") (b := true) ⟨o, ho, hc⟩ (by first | rfl | simp [isSubtype] | decide) ?_)
  rw [if_pos rfl]
  exact wpAny_pure (q h' old)
/-- how a zip stands behind k pairs, the first one at T0 -/
structure ZSt (h : Heap) (z TI TO i1 i2 l1 l2 T0 : Addr) (xs ys : Array Value) (k : Nat) : Prop where
  zip : ∃ t fl, h.get? z = some { cls := .type "zip", data := .fields #[.int (T0 : Int) t, .bool fl, .bool false, .ref TI, .ref TO] }
  old : ∃ o, h.get? T0 = some o
  its : h.get? TI = some { cls := .type "tuple", data := .seq #[.ref i1, .ref i2] }
  at1 : h.IsListIter i1 l1 k
  at2 : h.IsListIter i2 l2 k
  li1 : h.IsList l1 xs
  li2 : h.IsList l2 ys
/-- the pairs laid down so far -/
structure ZOut (h : Heap) (lo : Nat) (xs ys : Array Value) (as : List Addr) : Prop where
  rise : as.Pairwise (· < ·)
  above : ∀ a ∈ as, lo ≤ a
  pairs : ∀ (j : Nat) (a : Addr), as[j]? = some a → ∃ x y, xs[j]? = some x ∧ ys[j]? = some y ∧ h.get? a = some { cls := .type "tuple", data := .seq #[x, y] }
theorem far {a b lo : Nat} (h : b < lo) (h2 : lo ≤ a) : a ≠ b := by omega
theorem ZOut.snoc {h h' : Heap} {lo : Nat} {xs ys : Array Value} {as : List Addr} {x y : Value} {n : Nat} (q : ZOut h lo xs ys as) (hn : as.length = n) (hx : xs[n]? = some x) (hy : ys[n]? = some y) (ho : ∀ a ∈ as, ∀ o, h.get? a = some o → h'.get? a = some o) (hl : lo ≤ h.objs.size)
    (hw : h'.get? h.objs.size = some { cls := .type "tuple", data := .seq #[x, y] }) : ZOut h' lo xs ys (as ++ [h.objs.size]) where
  rise := by
    rw [List.pairwise_append]
    refine ⟨q.rise, List.pairwise_singleton _ _, fun a ha b hb => ?_⟩
    rw [List.mem_singleton] at hb
    subst hb
    obtain ⟨j, hj⟩ := List.getElem?_of_mem ha
    obtain ⟨_, _, _, _, e⟩ := q.pairs j a hj
    exact Heap.lt_size e
  above := fun a ha => by
    rcases List.mem_append.mp ha with ha | ha
    · exact q.above a ha
    · rw [List.mem_singleton] at ha
      exact ha ▸ hl
  pairs := fun j a e => by
    rcases Nat.lt_or_ge j as.length with lt | ge
    · rw [List.getElem?_append_left lt] at e
      obtain ⟨x', y', ex, ey, et⟩ := q.pairs j a e
      exact ⟨x', y', ex, ey, ho a (List.mem_of_getElem? e) _ et⟩
    · rw [List.getElem?_append_right ge] at e
      have j0 : j - as.length = 0 := by
        rcases Nat.eq_zero_or_pos (j - as.length) with z | z
        · exact z
        · rw [List.getElem?_eq_none (by simp; omega)] at e
          cases e
      rw [j0] at e
      injection e with e
      subst e
      have : j = n := by omega
      subst this
      exact ⟨x, y, hx, hy, hw⟩
theorem quietL {args : Args} : (Code.builtin "list.extend.loop" args).quiet = true := by
  first | exact Code.quiet_builtin _ (by decide +kernel) | exact plainId_quiet (by decide +kernel) _
theorem zip_loop {R : Result → Shared → Prop} (hA : A.handled = none) (ap : ZipApart z TI TO i1 i2 l1 l2) (hl : xs.size = ys.size) (hs : xs.size ≤ sizeLine) {S : Addr} (ne : S ≠ z ∧ S ≠ TI ∧ S ≠ i1 ∧ S ≠ i2 ∧ S ≠ l1 ∧ S ≠ l2 ∧ S ≠ T0 ∧ S ≠ TO) (T0z : T0 ≠ z ∧ T0 ≠ i1 ∧ T0 ≠ i2) (res : Value) {lo : Nat} (lz : z < lo ∧ i1 < lo ∧ i2 < lo ∧ S < lo) (h0 : Heap) (s0 : Shared)
    (fin : ∀ (s' : Shared) (acc : Array Value) (c : Nat) (as : List Addr), s'.gens = s0.gens ∧ s'.drawn = s0.drawn ∧ s'.os = s0.os → (∀ b o, b ≠ z → b ≠ i1 → b ≠ i2 → b ≠ S → h0.get? b = some o → s'.heap.get? b = some o) → s'.heap.get? S = some { cls := .type "list", data := .seq acc c } →
      acc.toList = as.map Value.ref → as.length = xs.size → ZOut s'.heap lo xs ys as → R (.ok (.ret res)) s') :
    ∀ (d k : Nat) (s : Shared) (acc : Array Value) (c : Nat) (as : List Addr), (s.gens = s0.gens ∧ s.drawn = s0.drawn ∧ s.os = s0.os) → xs.size - k = d → k ≤ xs.size → lo ≤ s.heap.objs.size → ZSt s.heap z TI TO i1 i2 l1 l2 T0 xs ys k → (∀ b o, b ≠ z → b ≠ i1 → b ≠ i2 → b ≠ S → h0.get? b = some o → s.heap.get? b = some o) →
      s.heap.get? S = some { cls := .type "list", data := .seq acc c } → acc.toList = as.map Value.ref → as.length = k → ZOut s.heap lo xs ys as →
      codeAny (model prog w) A (.builtin "list.extend.loop" { pos := [.ref S, .ref z, res] }) R s := by
  intro d
  induction d with
  | zero =>
    intro k s acc c as he hd hk hlo zs old hS ha hn zo
    obtain ⟨t, fl, hz⟩ := zs.zip
    obtain ⟨o, hT⟩ := zs.old
    have ek : k = xs.size := by omega
    subst ek
    refine codeAny_builtin F.entry_extend_loop ?_
    unfold Builtin.«list.extend.loop»
    dsimp only
    refine wpAny_bind (zip_end (A := A.under _) hA ap hz hT zs.its zs.at1 zs.li1 (fun h' kp => ?_))
    dsimp only
    have kS : ∀ b o, b ≠ z → b ≠ i1 → b ≠ i2 → b ≠ S → h0.get? b = some o → h'.get? b = some o := fun b o b1 b2 b3 b4 h => kp b o b1 b2 (old b o b1 b2 b3 b4 h)
    refine wpAny_pure (fin _ acc c as he kS (kp _ _ ne.1 ne.2.2.1 hS) ha hn ⟨zo.rise, zo.above, fun j a e => ?_⟩)
    obtain ⟨x, y, ex, ey, et⟩ := zo.pairs j a e
    have := zo.above a (List.mem_of_getElem? e)
    exact ⟨x, y, ex, ey, kp _ _ (far lz.1 this) (far lz.2.1 this) et⟩
  | succ d ih =>
    intro k s acc c as he hd hk hlo zs old hS ha hn zo
    obtain ⟨t, fl, hz⟩ := zs.zip
    obtain ⟨o, hT⟩ := zs.old
    have lt : k < xs.size := by omega
    have lt2 : k < ys.size := by omega
    have hx : xs[k]? = some xs[k] := Array.getElem?_eq_getElem lt
    have hy : ys[k]? = some ys[k] := Array.getElem?_eq_getElem lt2
    have al : acc.size = k := by
      have := congrArg List.length ha
      rw [Array.length_toList, List.length_map] at this
      omega
    refine codeAny_builtin F.entry_extend_loop ?_
    unfold Builtin.«list.extend.loop»
    dsimp only
    refine wpAny_bind (zip_next (A := A.under _) hA ap hz hT zs.its zs.at1 zs.at2 zs.li1 zs.li2 hx hy (fun h' tk z' j1 j2 tp sz kp => ?_))
    dsimp only
    have hS' := kp S _ ne.1 ne.2.2.1 ne.2.2.2.1 hS
    refine wpAny_bind (wpAny_updateSeq (f := fun v => v.push (.ref s.heap.objs.size)) hS' rfl ?_ (by omega) (by rw [Array.size_push]; omega))
    have sb := Heap.SameBut.update h' S (Obj.mapSeq fun v => v.push (.ref s.heap.objs.size))
    have hS2 := Heap.get?_update_self (Obj.mapSeq fun v => v.push (.ref s.heap.objs.size)) hS' rfl
    generalize h'.update S (Obj.mapSeq fun v => v.push (.ref s.heap.objs.size)) = h2 at sb hS2
    have nS : s.heap.objs.size ≠ S := far lz.2.2.2 hlo
    have kp2 : ∀ b o, b ≠ z → b ≠ i1 → b ≠ i2 → b ≠ S → s.heap.get? b = some o → h2.get? b = some o := fun b o b1 b2 b3 b4 h => by
      rw [sb.2 b b4]
      exact kp b o b1 b2 b3 h
    have lst : ∀ {l : Addr} {vs : Array Value}, l ≠ z → l ≠ i1 → l ≠ i2 → S ≠ l → s.heap.IsList l vs → h2.IsList l vs := fun n1 n2 n3 n4 q => by
      obtain ⟨o, e, r⟩ := q
      exact ⟨o, kp2 _ _ n1 n2 n3 n4.symm e, r⟩
    refine wpAny_pure ⟨quietL, ih (k + 1) _ _ _ (as ++ [s.heap.objs.size]) he (by omega) lt (by show lo ≤ h2.objs.size; rw [sb.1, sz]; omega) ⟨⟨t, true, ?_⟩, ⟨o, kp2 _ _ T0z.1 T0z.2.1 T0z.2.2 ne.2.2.2.2.2.2.1.symm hT⟩, kp2 _ _ ap.TIz ap.TIi1 ap.TIi2 ne.2.1.symm zs.its, iter_but sb ne.2.2.1.symm j1, iter_but sb ne.2.2.2.1.symm j2, lst ap.l1z ap.l1i1 ap.l1i2 ne.2.2.2.2.1 zs.li1, lst ap.l2z ap.l2i1 ap.l2i2 ne.2.2.2.2.2.1 zs.li2⟩ (fun b o b1 b2 b3 b4 h => kp2 b o b1 b2 b3 b4 (old b o b1 b2 b3 b4 h)) hS2 ?_ (by rw [List.length_append, hn]; rfl) (zo.snoc hn hx hy (fun a ha' o e => ?_) hlo ?_)⟩
    · show h2.get? z = _
      rw [sb.2 z ne.1.symm]
      exact z'
    · rw [Array.toList_push, ha, List.map_append]
      rfl
    · have := zo.above a ha'
      exact kp2 a o (far lz.1 this) (far lz.2.1 this) (far lz.2.2.1 this) (far lz.2.2.2 this) e
    · show h2.get? _ = _
      rw [sb.2 _ nS]
      exact tp
end
end Rs
open PySem PySem.Spec PyProof.Rows L2
namespace Rs
section
variable {prog : Program} {w : World} {A : Around} {E : Value → Shared → Prop} {z TI TO i1 i2 l1 l2 T0 : Addr} {k : Nat} {xs ys : Array Value} {x y a b : Value} {o : Obj} {t : Tok} 
theorem zip_nolen : typeLookup (.type "zip") (Str.ofString "__len__") = pure none := rfl
theorem zip_nohint : typeLookup (.type "zip") (Str.ofString "__length_hint__") = pure none := rfl
/-- how a new zip stands -/
structure ZNew (h : Heap) (z TI TO i1 i2 l1 l2 : Addr) (xs ys : Array Value) : Prop where
  zip : IsZip h z TI TO .none
  its : IsPair h TI (.ref i1) (.ref i2)
  own : IsPair h TO .none .none
  at1 : h.IsListIter i1 l1 0
  at2 : h.IsListIter i2 l2 0
  li1 : h.IsList l1 xs
  li2 : h.IsList l2 ys
theorem ext_zip {R : Result → Shared → Prop} {s : Shared} {S : Addr} {res : Value} {c0 : Nat} (hA : A.handled = none) (ap : ZipApart z TI TO i1 i2 l1 l2)
    (zn : ZNew s.heap z TI TO i1 i2 l1 l2 xs ys) (nSz : S ≠ z)
    (hS : s.heap.get? S = some { cls := .type "list", data := .seq #[] c0 })
    (q : ∀ h' c, h'.get? S = some { cls := .type "list", data := .seq #[] c } → Heap.SameBut S s.heap h' → codeAny (model prog w) A (.builtin "list.extend.loop" { pos := [.ref S, .ref z, res] }) R { s with heap := h' }) :
    wpAny (model prog w) A.in1 (Builtin.List.listExtendWith (.ref S) (.ref z) res)
      (fun fin s' => match fin with | .done f => R (.ok f) s' | .again c' => c'.quiet = true ∧ codeAny (model prog w) A c' R s') (fun e s' => R (.error e) s') s := by
  have hz := zn.zip
  have iter : ∀ {E1 : Value → Shared → Prop} {Q1 : Value → Shared → Prop}, Q1 (.ref z) s → wpAny (model prog w) A.in1 (pyIter (.ref z)) Q1 E1 s := fun {E1 Q1} h1 =>
    (WalksT.zip2 (A := A.in1) hA z TI TO i1 i2 l1 l2 ap xs ys).self 0 s Q1 E1 ⟨zn.zip, zn.its, ⟨_, _, zn.own⟩, zn.at1, zn.at2, zn.li1, zn.li2⟩ h1
  have hint : ∀ {A1 : Around} {E1 : Value → Shared → Prop} {Q1 : Bool → Shared → Prop}, Q1 true s → wpAny (model prog w) A1 (Builtin.List.listLengthHint (.ref z)) Q1 E1 s := by
    intro A1 E1 Q1 h1
    unfold Builtin.List.listLengthHint
    repeat (first | (refine wpAny_of_eq zip_nolen ?_) | (refine wpAny_of_eq zip_nohint ?_) | wp_step)
    exact h1
  unfold Builtin.List.listExtendWith
  have sr : (Builtin.List.listSameRef (.ref S) (.ref z) || Value.type "zip" == Value.type "list" || Value.type "zip" == Value.type "tuple") = false := by
    have : Builtin.List.listSameRef (.ref S) (.ref z) = false := by
      unfold Builtin.List.listSameRef
      first | exact beq_false_of_ne nSz | simpa using nSz | simp [nSz]
    rw [this]
    rfl
  refine wpAny_bind (wpAny_typeOf_ref hz ?_)
  rw [sr]
  rw [if_neg (by decide)]
  refine wpAny_bind (iter ?_)
  refine wpAny_bind (wpAny_holding (hint ?_))
  dsimp only
  rw [Bool.true_or, if_pos rfl]
  repeat wp_step
  have s1 := Heap.SameBut.update s.heap S (Obj.mapSeq fun x => x.push Value.none)
  have g1 := Heap.get?_update_self (Obj.mapSeq fun x => x.push Value.none) hS rfl
  have s2 := Heap.SameBut.update (s.heap.update S (Obj.mapSeq fun x => x.push Value.none)) S (Obj.mapSeq fun x => x.pop)
  have g2 := Heap.get?_update_self (Obj.mapSeq fun x => x.pop) g1 rfl
  exact ⟨quietL, q _ _ g2 ⟨s2.1.trans s1.1, fun b hb => (s2.2 b hb).trans (s1.2 b hb)⟩⟩
theorem rawInt_is (n : Nat) : ∃ t, rawInt (n : Int) = .int (n : Int) t := ⟨_, rfl⟩
/-- the walk from the first pair on -/
theorem zip_walk {R : Result → Shared → Prop} {s : Shared} {S : Addr} {c0 : Nat} (hA : A.handled = none) (ap : ZipApart z TI TO i1 i2 l1 l2) (hl : xs.size = ys.size) (n0 : 0 < xs.size) (hs : xs.size ≤ sizeLine) (res : Value)
    (zn : ZNew s.heap z TI TO i1 i2 l1 l2 xs ys) (ne : S ≠ z ∧ S ≠ TI ∧ S ≠ i1 ∧ S ≠ i2 ∧ S ≠ l1 ∧ S ≠ l2 ∧ S ≠ TO)
    (hS : s.heap.get? S = some { cls := .type "list", data := .seq #[] c0 })
    (fin : ∀ (s' : Shared) (acc : Array Value) (c : Nat) (as : List Addr), s'.gens = s.gens ∧ s'.drawn = s.drawn ∧ s'.os = s.os → (∀ b o, b ≠ z → b ≠ TO → b ≠ i1 → b ≠ i2 → b ≠ S → s.heap.get? b = some o → s'.heap.get? b = some o) → s'.heap.get? S = some { cls := .type "list", data := .seq acc c } →
      acc.toList = as.map Value.ref → as.length = xs.size → ZOut s'.heap s.heap.objs.size xs ys as → R (.ok (.ret res)) s') :
    codeAny (model prog w) A (.builtin "list.extend.loop" { pos := [.ref S, .ref z, res] }) R s := by
  have lt2 : 0 < ys.size := by omega
  have hx : xs[0]? = some xs[0] := Array.getElem?_eq_getElem n0
  have hy : ys[0]? = some ys[0] := Array.getElem?_eq_getElem lt2
  have bz := Heap.lt_size zn.zip
  have bS := Heap.lt_size hS
  have b1 : i1 < s.heap.objs.size := by
    obtain ⟨o, e, _⟩ := zn.at1
    exact Heap.lt_size e
  have b2 : i2 < s.heap.objs.size := by
    obtain ⟨o, e, _⟩ := zn.at2
    exact Heap.lt_size e
  refine codeAny_builtin F.entry_extend_loop ?_
  unfold Builtin.«list.extend.loop»
  dsimp only
  refine wpAny_bind (wpAny_pyNext_zip_item ap zn.zip zn.its zn.own zn.at1 zn.at2 zn.li1 zn.li2 hx hy (fun h' z' to' j1 j2 tp sz kp => ?_))
  dsimp only
  have hS' := kp S _ ne.1 ne.2.2.2.2.2.2 ne.2.2.1 ne.2.2.2.1 hS
  refine wpAny_bind (wpAny_updateSeq (f := fun v => v.push (.ref s.heap.objs.size)) hS' rfl ?_ (by decide) (by show 1 ≤ sizeLine + 1; omega))
  have sb := Heap.SameBut.update h' S (Obj.mapSeq fun v => v.push (.ref s.heap.objs.size))
  have hS2 := Heap.get?_update_self (Obj.mapSeq fun v => v.push (.ref s.heap.objs.size)) hS' rfl
  generalize h'.update S (Obj.mapSeq fun v => v.push (.ref s.heap.objs.size)) = h2 at sb hS2
  have nS : s.heap.objs.size ≠ S := far bS (Nat.le_refl _)
  have kp2 : ∀ b o, b ≠ z → b ≠ TO → b ≠ i1 → b ≠ i2 → b ≠ S → s.heap.get? b = some o → h2.get? b = some o := fun b o b1 b2 b3 b4 b5 h => by
    rw [sb.2 b b5]
    exact kp b o b1 b2 b3 b4 h
  have lst : ∀ {l : Addr} {vs : Array Value}, l ≠ z → l ≠ TO → l ≠ i1 → l ≠ i2 → S ≠ l → s.heap.IsList l vs → h2.IsList l vs := fun n1 n2 n3 n4 n5 q => by
    obtain ⟨o, e, r⟩ := q
    exact ⟨o, kp2 _ _ n1 n2 n3 n4 n5.symm e, r⟩
  have tp2 : h2.get? s.heap.objs.size = some { cls := .type "tuple", data := .seq #[xs[0], ys[0]] } := by
    rw [sb.2 _ nS]
    exact tp
  obtain ⟨t, et⟩ := rawInt_is s.heap.objs.size
  refine wpAny_pure ⟨quietL, zip_loop (T0 := s.heap.objs.size) hA ap hl hs ⟨ne.1, ne.2.1, ne.2.2.1, ne.2.2.2.1, ne.2.2.2.2.1, ne.2.2.2.2.2.1, nS.symm, ne.2.2.2.2.2.2⟩ ⟨far bz (Nat.le_refl _), far b1 (Nat.le_refl _), far b2 (Nat.le_refl _)⟩ res (lo := s.heap.objs.size) ⟨bz, b1, b2, bS⟩ h2 s
    (fun s' acc c as he old hS3 ha hn zo => fin s' acc c as he (fun b o n1 n2 n3 n4 n5 h => old b o n1 n3 n4 n5 (kp2 b o n1 n2 n3 n4 n5 h)) hS3 ha hn zo)
    (xs.size - 1) 1 _ _ _ [s.heap.objs.size] ⟨rfl, rfl, rfl⟩ rfl n0 (by show s.heap.objs.size ≤ h2.objs.size; rw [sb.1, sz]; omega)
    ⟨⟨t, false, ?_⟩, ⟨_, tp2⟩, kp2 _ _ ap.TIz ap.TITO ap.TIi1 ap.TIi2 ne.2.1.symm zn.its, iter_but sb ne.2.2.1.symm j1, iter_but sb ne.2.2.2.1.symm j2, lst ap.l1z ap.l1TO ap.l1i1 ap.l1i2 ne.2.2.2.2.1 zn.li1, lst ap.l2z ap.l2TO ap.l2i1 ap.l2i2 ne.2.2.2.2.2.1 zn.li2⟩
    (fun b o _ _ _ _ h => h) hS2 rfl rfl ⟨List.pairwise_singleton _ _, fun a ha => by rw [List.mem_singleton.mp ha]; exact Nat.le_refl _, fun j a e => ?_⟩⟩
  · show h2.get? z = _
    rw [sb.2 z ne.1.symm, ← et]
    exact z'
  · cases j with
    | zero =>
      injection e with e
      subst e
      exact ⟨_, _, hx, hy, tp2⟩
    | succ j => cases e
end
end Rs
open PySem PySem.Spec PyProof.Rows L2
namespace Rs
section
variable {prog : Program} {w : World} {A : Around} {E : Value → Shared → Prop} {z TI TO i1 i2 l1 l2 T0 : Addr} {k : Nat} {xs ys : Array Value} {x y a b : Value} {o : Obj} {t : Tok} 
theorem ZNew.kept {h h' : Heap} (q : ZNew h z TI TO i1 i2 l1 l2 xs ys) (k : ∀ b o, h.get? b = some o → h'.get? b = some o) : ZNew h' z TI TO i1 i2 l1 l2 xs ys where
  zip := k _ _ q.zip
  its := k _ _ q.its
  own := k _ _ q.own
  at1 := by
    obtain ⟨o, e, r⟩ := q.at1
    exact ⟨o, k _ _ e, r⟩
  at2 := by
    obtain ⟨o, e, r⟩ := q.at2
    exact ⟨o, k _ _ e, r⟩
  li1 := by
    obtain ⟨o, e, r⟩ := q.li1
    exact ⟨o, k _ _ e, r⟩
  li2 := by
    obtain ⟨o, e, r⟩ := q.li2
    exact ⟨o, k _ _ e, r⟩
theorem init_zip {R : Result → Shared → Prop} {s : Shared} {S : Addr} {c0 : Nat} (hA : A.handled = none) (ap : ZipApart z TI TO i1 i2 l1 l2) (hl : xs.size = ys.size) (n0 : 0 < xs.size) (hs : xs.size ≤ sizeLine)
    (zn : ZNew s.heap z TI TO i1 i2 l1 l2 xs ys) (ne : S ≠ z ∧ S ≠ TI ∧ S ≠ i1 ∧ S ≠ i2 ∧ S ≠ l1 ∧ S ≠ l2 ∧ S ≠ TO)
    (hS : s.heap.get? S = some { cls := .type "list", data := .seq #[] c0 })
    (fin : ∀ (s' : Shared) (acc : Array Value) (c : Nat) (as : List Addr), s'.gens = s.gens ∧ s'.drawn = s.drawn ∧ s'.os = s.os → (∀ b o, b ≠ z → b ≠ TO → b ≠ i1 → b ≠ i2 → b ≠ S → s.heap.get? b = some o → s'.heap.get? b = some o) → s'.heap.get? S = some { cls := .type "list", data := .seq acc c } →
      acc.toList = as.map Value.ref → as.length = xs.size → ZOut s'.heap s.heap.objs.size xs ys as → R (.ok (.ret .none)) s') :
    codeAny (model prog w) A (.call (.builtin "list.__init__") { pos := [.ref S, .ref z] }) R s := by
  refine codeAny_call_builtin F.called_list.init.plain F.entry_list_init (F.called_list.init.check _ _ _ s (.ref S) [.ref z] [] _ ⟨_, hS, rfl⟩ rfl ?_)
  unfold Builtin.«list.__init__»
  dsimp only
  have hU := Heap.get?_update_self (Obj.mapSeq fun _ => #[]) hS rfl
  have sU := Heap.SameBut.update s.heap S (Obj.mapSeq fun _ => #[])
  have step : wpAny (model prog w) A.in1 (Builtin.List.listExtendWith (.ref S) (.ref z) .none)
      (fun fin s' => match fin with | .done f => R (.ok f) s' | .again c' => c'.quiet = true ∧ codeAny (model prog w) A c' R s') (fun e s' => R (.error e) s') { s with heap := s.heap.update S (Obj.mapSeq fun _ => #[]) } := by
    have kp : ∀ b o, b ≠ S → s.heap.get? b = some o → (s.heap.update S (Obj.mapSeq fun _ => #[])).get? b = some o := fun b o nb h => by
      rw [sU.2 b nb]
      exact h
    have znU : ZNew (s.heap.update S (Obj.mapSeq fun _ => #[])) z TI TO i1 i2 l1 l2 xs ys := by
      refine ⟨kp _ _ ne.1.symm zn.zip, kp _ _ ne.2.1.symm zn.its, kp _ _ ne.2.2.2.2.2.2.symm zn.own, iter_but sU ne.2.2.1.symm zn.at1, iter_but sU ne.2.2.2.1.symm zn.at2, list_but sU ne.2.2.2.2.1.symm zn.li1, list_but sU ne.2.2.2.2.2.1.symm zn.li2⟩
    refine ext_zip (xs := xs) (ys := ys) hA ap znU ne.1 hU (fun h' c hS' sb => ?_)
    have kp2 : ∀ b o, b ≠ S → s.heap.get? b = some o → h'.get? b = some o := fun b o nb h => by
      rw [sb.2 b nb]
      exact kp b o nb h
    have zn2 : ZNew h' z TI TO i1 i2 l1 l2 xs ys := by
      refine ⟨kp2 _ _ ne.1.symm zn.zip, kp2 _ _ ne.2.1.symm zn.its, kp2 _ _ ne.2.2.2.2.2.2.symm zn.own, iter_but sb ne.2.2.1.symm znU.at1, iter_but sb ne.2.2.2.1.symm znU.at2, list_but sb ne.2.2.2.2.1.symm znU.li1, list_but sb ne.2.2.2.2.2.1.symm znU.li2⟩
    have sz : h'.objs.size = s.heap.objs.size := sb.1.trans sU.1
    refine zip_walk hA ap hl n0 hs .none zn2 ne hS' (fun s' acc c as he old h3 ha hn zo => fin s' acc c as he (fun b o b1 b2 b3 b4 b5 h => old b o b1 b2 b3 b4 b5 (kp2 b o b5 h)) h3 ha hn ?_)
    rw [← sz]
    exact zo
  repeat (first
    | (refine step)
    | wp_step)
/-- list(z), z a new zip of two lists of one length -/
theorem call_list_zip {s : Shared} {Q : Value → Shared → Prop} (hA : A.handled = none) (ap : ZipApart z TI TO i1 i2 l1 l2) (hl : xs.size = ys.size) (n0 : 0 < xs.size) (hs : xs.size ≤ sizeLine)
    (zn : ZNew s.heap z TI TO i1 i2 l1 l2 xs ys)
    (fin : ∀ (s' : Shared) (acc : Array Value) (c : Nat) (as : List Addr), s'.gens = s.gens ∧ s'.drawn = s.drawn ∧ s'.os = s.os → (∀ b o, b ≠ z → b ≠ TO → b ≠ i1 → b ≠ i2 → s.heap.get? b = some o → s'.heap.get? b = some o) → s'.heap.get? s.heap.objs.size = some { cls := .type "list", data := .seq acc c } →
      acc.toList = as.map Value.ref → as.length = xs.size → ZOut s'.heap (s.heap.objs.size + 1) xs ys as → Q (.ref s.heap.objs.size) s') :
    wpAny (model prog w) A (call (.type "list") [.ref z]) Q E s := by
  have lt : ∀ b o, s.heap.get? b = some o → b ≠ s.heap.objs.size := fun b o e => (far (Heap.lt_size e) (Nat.le_refl _)).symm
  have ne : s.heap.objs.size ≠ z ∧ s.heap.objs.size ≠ TI ∧ s.heap.objs.size ≠ i1 ∧ s.heap.objs.size ≠ i2 ∧ s.heap.objs.size ≠ l1 ∧ s.heap.objs.size ≠ l2 ∧ s.heap.objs.size ≠ TO := by
    obtain ⟨_, a1, _⟩ := zn.at1
    obtain ⟨_, a2, _⟩ := zn.at2
    obtain ⟨_, a3, _⟩ := zn.li1
    obtain ⟨_, a4, _⟩ := zn.li2
    exact ⟨(lt _ _ zn.zip).symm, (lt _ _ zn.its).symm, (lt _ _ a1).symm, (lt _ _ a2).symm, (lt _ _ a3).symm, (lt _ _ a4).symm, (lt _ _ zn.own).symm⟩
  have zn2 : ZNew (s.heap.push { cls := .type "list", data := .seq #[] }) z TI TO i1 i2 l1 l2 xs ys := zn.kept fun b o e => Heap.get?_push_of_some _ e
  refine wpAny_call (codeAny_of_tree ?_)
  have e : (model prog w).den (Code.call (Value.type "list") { pos := [Value.ref z] }) = denote table (Code.call (Value.type "list") { pos := [Value.ref z] }) := rfl
  rw [e]
  unfold denote
  dsimp only
  unfold callAny
  dsimp only
  refine wpAny_pure ⟨Code.quiet_builtin _ (by decide +kernel), codeAny_builtin F.entry_type_call ?_⟩
  unfold Builtin.«type.__call__»
  dsimp only
  repeat (first
    | (refine wpAny_of_eq (F.typeCall_list_1 _) ?_)
    | (refine wpAny_of_eq F.called_list.made ?_)
    | (refine wpAny_call (code_list_new _ ?_))
    | (refine wpAny_isInstance (T := "list") ⟨_, Heap.get?_push_size _ rfl, rfl⟩ F.called_list.sub ?_)
    | (refine wpAny_callSpecial?_slot (T := "list") ⟨_, Heap.get?_push_size _ rfl, rfl⟩ F.called_list.init (wpAny_call (init_zip (A := A.under _) hA ap hl n0 hs zn2 ne (Heap.get?_push_size _ rfl) (fun s' acc c as he old h3 ha hn zo => ?_))))
    | wp_step)
  refine fin s' acc c as he (fun b o b1 b2 b3 b4 h => old b o b1 b2 b3 b4 (lt b o h) (Heap.get?_push_of_some _ h)) h3 ha hn ?_
  have sz : (s.heap.push { cls := .type "list", data := .seq #[] }).objs.size = s.heap.objs.size + 1 := Heap.size_push _ _
  exact sz ▸ zo
end
end Rs
/-! many new objects laid at once -/
open PySem PySem.Spec PyProof.Rows L2
namespace Rs
/-- a heap's first n objects -/
def cutH (h : Heap) (n : Nat) : Heap := { h with objs := h.objs.extract 0 n }
theorem cutH_at {h : Heap} {n : Nat} {b : Nat} (lt : b < n) : (cutH h n).objs[b]? = h.objs[b]? := by
  unfold cutH
  dsimp only
  rw [Array.getElem?_extract]
  split
  · rw [Nat.zero_add]
  · rw [Array.getElem?_eq_none (by omega)]
theorem cutH_get {h : Heap} {n : Nat} {b : Addr} (lt : b < n) : (cutH h n).get? b = h.get? b := by
  unfold Heap.get?
  rw [cutH_at lt]
theorem cutH_size {h : Heap} {n : Nat} (le : n ≤ h.objs.size) : (cutH h n).objs.size = n := by
  unfold cutH
  simp
  omega
theorem cutH_lt {h : Heap} {n : Nat} {b : Addr} {u : Obj} (le : n ≤ h.objs.size) (e : (cutH h n).get? b = some u) : b < n := by
  have := Heap.lt_size e
  rw [cutH_size le] at this
  exact this
theorem lay {X : Cx} {pins : List (Addr × Obj)} {σ : L2.St} {h' : Heap} {g : Array GenState} {dr : Drawn} {tk : Nat} {os : OsState} : ∀ (ts : List (Addr × HO)) (H : Hp) (n : Nat), Inv X pins σ H { heap := cutH h' n, gens := g, drawn := dr, toks := tk, os := os } → n ≤ h'.objs.size →
    (∀ p ∈ ts, n ≤ p.1 ∧ p.1 < h'.objs.size) → ts.Pairwise (fun p q => p.1 < q.1) → (∀ p ∈ ts, ∀ H h, h.get? p.1 = h'.get? p.1 → ObjOk X.prog X.w H h p.1 p.2) →
    Inv X pins σ (ts.foldl (fun H p => upd H p.1 p.2) H) { heap := h', gens := g, drawn := dr, toks := tk, os := os }
  | [], H, n, I, le, _, _, _ => I.kept (t' := tk) fun b u e => by
    have lt := cutH_lt le e
    rw [cutH_get lt] at e
    exact e
  | p :: ts, H, n, I, le, hp, rise, ok => by
    have p0 := hp p (List.mem_cons_self ..)
    have pn : p.1 + 1 ≤ h'.objs.size := p0.2
    have rr := List.pairwise_cons.mp rise
    refine lay ts (upd H p.1 p.2) (p.1 + 1) (I.laid (h' := cutH h' (p.1 + 1)) (t' := tk) (fun b u e => ?_) ?_ (ok p (List.mem_cons_self ..) _ _ (cutH_get (Nat.lt_succ_self _)))) pn (fun q hq => ⟨rr.1 q hq, (hp q (List.mem_cons_of_mem _ hq)).2⟩) rr.2 fun q hq => ok q (List.mem_cons_of_mem _ hq)
    · have lt := cutH_lt le e
      rw [cutH_get lt] at e
      rw [cutH_get (show b < p.1 + 1 from Nat.lt_succ_of_lt (Nat.lt_of_lt_of_le lt p0.1))]
      exact e
    · show (cutH h' n).objs.size ≤ p.1
      rw [cutH_size le]
      exact p0.1
theorem laid_many {X : Cx} {pins : List (Addr × Obj)} {σ : L2.St} {H : Hp} {s : Shared} {h' : Heap} {tk : Nat} {ts : List (Addr × HO)} (I : Inv X pins σ H s) (k : ∀ b u, s.heap.get? b = some u → h'.get? b = some u) (sz : s.heap.objs.size ≤ h'.objs.size)
    (hp : ∀ p ∈ ts, s.heap.objs.size ≤ p.1 ∧ p.1 < h'.objs.size) (rise : ts.Pairwise (fun p q => p.1 < q.1)) (ok : ∀ p ∈ ts, ∀ H h, h.get? p.1 = h'.get? p.1 → ObjOk X.prog X.w H h p.1 p.2) :
    Inv X pins σ (ts.foldl (fun H p => upd H p.1 p.2) H) { heap := h', gens := s.gens, drawn := s.drawn, toks := tk, os := s.os } :=
  lay ts H s.heap.objs.size (I.kept (h' := cutH h' s.heap.objs.size) (t' := tk) fun b u e => by
    rw [cutH_get (Heap.lt_size e)]
    exact k b u e) sz hp rise ok
theorem laid_at {ts : List (Addr × HO)} : ∀ {H : Hp} {a : Addr}, (∀ p ∈ ts, p.1 ≠ a) → ts.foldl (fun H p => upd H p.1 p.2) H a = H a := by
  induction ts with
  | nil => exact fun _ => rfl
  | cons p ts ih =>
    intro H a h
    rw [List.foldl_cons, ih fun q hq => h q (List.mem_cons_of_mem _ hq)]
    exact upd_ne (h p (List.mem_cons_self ..)).symm
theorem laid_in {ts : List (Addr × HO)} : ∀ {H : Hp} {p : Addr × HO}, ts.Pairwise (fun p q => p.1 < q.1) → p ∈ ts → ts.foldl (fun H p => upd H p.1 p.2) H p.1 = some p.2 := by
  induction ts with
  | nil => exact fun _ h => nomatch h
  | cons q ts ih =>
    intro H p r h
    have rr := List.pairwise_cons.mp r
    rw [List.foldl_cons]
    rcases List.mem_cons.mp h with rfl | h
    · rw [laid_at fun q hq => Nat.ne_of_gt (rr.1 q hq)]
      exact upd_same
    · exact ih rr.2 h
end Rs
/-! the rule of list(zip(a, b)) -/
open PySem PySem.Spec PyProof.Rows L2
namespace Rs
def tListZip (ta : TA) : TE := fun σ H Q => ta σ H fun vs H1 => ∃ (a b : Addr) (xs ys : List V), vs = [.ref a, .ref b] ∧ H1 a = some (.lst xs) ∧ H1 b = some (.lst ys) ∧ xs.length = ys.length ∧ 0 < xs.length ∧
  ∀ (H' : Hp) (L : Addr) (ts : List Addr), Same H1 H' → H1 L = none → H' L = some (.lst (ts.map V.ref)) → ts.length = xs.length →
    (∀ (j : Nat) (t : Addr), ts[j]? = some t → H1 t = none ∧ ∃ x y, xs[j]? = some x ∧ ys[j]? = some y ∧ H' t = some (.tup [x, y])) → Q (.ref L) H'
theorem zip_pair {α β : Type} {as : List α} {bs : List β} {p : α × β} (h : p ∈ as.zip bs) : ∃ j : Nat, as[j]? = some p.1 ∧ bs[j]? = some p.2 := by
  obtain ⟨j, hj⟩ := List.getElem?_of_mem h
  rw [List.getElem?_zip_eq_some] at hj
  exact ⟨j, hj.1, hj.2⟩
theorem vals_refs : ∀ as : List Addr, Vals (as.map V.ref) (as.map Value.ref)
  | [] => .nil
  | _ :: as => .cons rfl (vals_refs as)
theorem lay_zip {X : Cx} {pins : List (Addr × Obj)} {σ : L2.St} {H : Hp} {s s' : Shared} {L : Addr} {acc : Array Value} {c : Nat} {as : List Addr} {xs ys : List V} {us vs : List Value} (I : Inv X pins σ H s) (he : s'.gens = s.gens ∧ s'.drawn = s.drawn ∧ s'.os = s.os)
    (k : ∀ b u, s.heap.get? b = some u → s'.heap.get? b = some u) (hL : s.heap.objs.size ≤ L) (gL : s'.heap.get? L = some { cls := .type "list", data := .seq acc c }) (ea : acc.toList = as.map Value.ref) (el : as.length = us.length)
    (zo : ZOut s'.heap (L + 1) us.toArray vs.toArray as) (rx : Vals xs us) (ry : Vals ys vs) (l1 : us.length ≤ sizeLine) (l2 : us.length = vs.length) :
    ∃ H', Inv X pins σ H' s' ∧ Same H H' ∧ H L = none ∧ H' L = some (.lst (as.map V.ref)) ∧ ∀ (j : Nat) (t : Addr), as[j]? = some t → H t = none ∧ ∃ x y, xs[j]? = some x ∧ ys[j]? = some y ∧ H' t = some (.tup [x, y]) := by
  have lx := rx.length
  have ly := ry.length
  have szL := Heap.lt_size gL
  have sa : ∀ a ∈ as, L < a := fun a ha => zo.above a ha
  have sb : ∀ a ∈ as, a < s'.heap.objs.size := fun a ha => by
    obtain ⟨j, hj⟩ := List.getElem?_of_mem ha
    obtain ⟨_, _, _, _, e⟩ := zo.pairs j a hj
    exact Heap.lt_size e
  have fresh : ∀ b, s.heap.objs.size ≤ b → H b = none := fun b hb => I.hok.fresh hb
  have pl : (List.zipWith (fun x y => HO.tup [x, y]) xs ys).length = as.length := by
    rw [List.length_zipWith]
    omega
  have mf : (as.zip (List.zipWith (fun x y => HO.tup [x, y]) xs ys)).map Prod.fst = as := List.map_fst_zip (by omega)
  have rise : ((L, HO.lst (as.map V.ref)) :: as.zip (List.zipWith (fun x y => HO.tup [x, y]) xs ys)).Pairwise (fun p q => p.1 < q.1) := by
    refine List.pairwise_cons.mpr ⟨fun q hq => sa _ ?_, ?_⟩
    · rw [← mf]
      exact List.mem_map_of_mem hq
    · have := zo.rise
      rw [← mf, List.pairwise_map] at this
      exact this
  have J := laid_many (h' := s'.heap) (tk := s'.toks) (ts := (L, HO.lst (as.map V.ref)) :: as.zip (List.zipWith (fun x y => HO.tup [x, y]) xs ys)) I k (Nat.le_of_lt (Nat.lt_of_le_of_lt hL szL)) (fun p hp => ?_) rise (fun p hp H h e => ?_)
  · refine ⟨List.foldl (fun (H : Hp) (p : Addr × HO) => upd H p.1 p.2) H ((L, HO.lst (as.map V.ref)) :: as.zip (List.zipWith (fun x y => HO.tup [x, y]) xs ys)), ?_, ?_, fresh L hL, laid_in rise (List.mem_cons_self ..), fun j t ht => ?_⟩
    · obtain ⟨e1, e2, e3⟩ := he
      rw [← e1, ← e2, ← e3] at J
      exact J
    · intro b o hb
      rw [laid_at]
      · exact hb
      · intro p hp c
        have : H b = none := fresh b ?_
        · rw [this] at hb; cases hb
        · subst c
          rcases List.mem_cons.mp hp with rfl | hp
          · exact hL
          · obtain ⟨j, hj, _⟩ := zip_pair hp
            exact Nat.le_of_lt (Nat.lt_of_le_of_lt hL (sa _ (List.mem_of_getElem? hj)))
    · have lt : j < as.length := (List.getElem?_eq_some_iff.mp ht).1
      have ex : xs[j]? = some xs[j] := List.getElem?_eq_getElem (by omega)
      have ey : ys[j]? = some ys[j] := List.getElem?_eq_getElem (by omega)
      refine ⟨fresh t (Nat.le_of_lt (Nat.lt_of_le_of_lt hL (sa _ (List.mem_of_getElem? ht)))), _, _, ex, ey, ?_⟩
      refine laid_in (p := (t, HO.tup [xs[j], ys[j]])) rise (List.mem_cons_of_mem _ (List.mem_of_getElem? (i := j) ?_))
      rw [List.getElem?_zip_eq_some]
      refine ⟨ht, ?_⟩
      rw [List.getElem?_zipWith, ex, ey]
  · rcases List.mem_cons.mp hp with rfl | hp
    · exact ⟨hL, szL⟩
    · obtain ⟨j, hj, _⟩ := zip_pair hp
      have := List.mem_of_getElem? hj
      exact ⟨Nat.le_of_lt (Nat.lt_of_le_of_lt hL (sa _ this)), sb _ this⟩
  · rcases List.mem_cons.mp hp with rfl | hp
    · refine ⟨by rw [List.length_map]; omega, as.map Value.ref, c, vals_refs as, ?_⟩
      rw [e]
      show s'.heap.get? L = _
      rw [gL, ← ea]
    · obtain ⟨j, hj, h2⟩ := zip_pair hp
      obtain ⟨u, v, eu, ev, et⟩ := zo.pairs j p.1 hj
      have lt : j < as.length := (List.getElem?_eq_some_iff.mp hj).1
      have ex : xs[j]? = some xs[j] := List.getElem?_eq_getElem (by omega)
      have ey : ys[j]? = some ys[j] := List.getElem?_eq_getElem (by omega)
      rw [List.getElem?_zipWith, ex, ey] at h2
      injection h2 with h2
      rw [← h2]
      obtain ⟨u', hu, ru⟩ := rx.get ex
      obtain ⟨v', hv, rv⟩ := ry.get ey
      rw [List.getElem?_toArray] at eu ev
      rw [hu] at eu
      rw [hv] at ev
      injection eu with eu
      injection ev with ev
      subst eu
      subst ev
      exact ⟨by show 2 ≤ sizeLine; decide, [u', v'], .cons ru (.cons rv .nil), ⟨_, e.trans et, rfl, _, rfl⟩⟩
theorem apart {n a b : Nat} (ha : a < n) (hb : b < n) : ZipApart (n + 4) (n + 2) (n + 3) n (n + 1) a b := by
  constructor <;> (intro e; have e' : (_ : Nat) = _ := e; omega)
theorem ne4 {n b : Nat} (h : b < n) : b ≠ n + 4 ∧ b ≠ n + 3 ∧ b ≠ n ∧ b ≠ n + 1 := by omega
theorem pe_listZip {X : Cx} {e e2 : Expr} {ta : TA} {p p2 zpos pos : Pos} (hc : X.calm = true) (hg : Gl X "list") (hm : X.mg "list" = none) (hz : Gl X "zip") (hmz : X.mg "zip" = none) (ha : PA X [e, e2] ta)
    (hs : starEach [e, e2] X.env = (false, eval e X.env) :: starEach [e2] X.env := by rfl) (hs2 : ((backTo zpos (starEach [e2] X.env)).any fun x => x.1) = false := by rfl)
    (hs3 : starEach [.Call (.Name "zip" p2) [e, e2] [] zpos] X.env = (false, eval (.Call (.Name "zip" p2) [e, e2] [] zpos) X.env) :: starEach [] X.env := by rfl) :
    PE X (.Call (.Name "list" p) [.Call (.Name "zip" p2) [e, e2] [] zpos] [] pos) (tListZip ta) := by
  refine ⟨fun pins s σ H Q I hyp => Call_ (ld_blt I hg hm boot_list (callWith_type1 (spliced_more (Call_ (ld_blt I hz hmz boot_zip (callWith_type1 (thn (ha.run zpos pins s σ H _ I hyp) fun us s1 res => ?_) hs hs2))) hs3) hs3 rfl))⟩
  obtain ⟨vs, H1, I1, r1, a, b, xs, ys, rfl, hA, hB, hl, n0, q⟩ := res
  cases r1 with
  | cons r rr =>
    cases rr with
    | cons r2 rr =>
      cases rr
      cases r
      cases r2
      obtain ⟨us, ru, pa, la⟩ := I1.list (SqL.of hA)
      obtain ⟨vs, rv, pb, lb⟩ := I1.list (SqL.of hB)
      have lu := ru.length
      have lv := rv.length
      refine call_zip_2 pa.isList pb.isList (fun h' z ti to j1 j2 sz kp => ?_)
      have la' : a < s1.heap.objs.size := by
        obtain ⟨o, e, _⟩ := pa.isList
        exact Heap.lt_size e
      have lb' : b < s1.heap.objs.size := by
        obtain ⟨o, e, _⟩ := pb.isList
        exact Heap.lt_size e
      have kl : ∀ {l : Addr} {ws : Array Value}, s1.heap.IsList l ws → h'.IsList l ws := fun q => by
        obtain ⟨o, e, r⟩ := q
        exact ⟨o, kp _ _ e, r⟩
      have es : us.toArray.size = vs.toArray.size := by
        show us.length = vs.length
        omega
      refine spliced_none (call_list_zip (xs := us.toArray) (ys := vs.toArray) (I1.ok.hd hc) (apart la' lb') es (show 0 < us.length by omega) (show us.length ≤ sizeLine by omega) ⟨z, ti, to, j1, j2, kl pa.isList, kl pb.isList⟩ (fun s' acc c as he old hL hacc hn zo => ?_))
      have sz' : h'.objs.size = s1.heap.objs.size + 5 := sz
      obtain ⟨H', J, sm, nL, hH, pr⟩ := lay_zip (L := h'.objs.size) (us := us) (vs := vs) I1 he (fun b' u e' => by
        have lt := Heap.lt_size e'
        exact old b' u (ne4 lt).1 (ne4 lt).2.1 (ne4 lt).2.2.1 (ne4 lt).2.2.2 (kp b' u e')) (by rw [sz']; omega) hL hacc hn zo ru rv (show us.length ≤ sizeLine by omega) (show us.length = vs.length by omega)
      exact ⟨.ref h'.objs.size, H', J, rfl, q H' h'.objs.size as sm nL hH (hn.trans (show us.length = xs.length by omega)) pr⟩
end Rs
/-! math.lcm; v in a tuple of data. -/
namespace Rs
open PySem PySem.Spec PyProof.Rows L2
section
variable {X : Cx}
def rLcm : List V → Hp → VK → Prop := fun vs H Q => ∃ a b : Int, vs = [.int a, .int b] ∧ a.natAbs < 2 ^ 64 ∧ b.natAbs < 2 ^ 64 ∧ Q (.int ((Nat.lcm a.natAbs b.natAbs : Nat) : Int)) H
theorem cr_lcm : CallR X (.builtin "math.lcm") rLcm := by
  intro pins s σ H vs us Q I r h
  obtain ⟨a, b, rfl, ha, hb, q⟩ := h
  obtain ⟨t, u, rfl⟩ := Vals.int2 r
  exact PySem.W.mc_lcm ha hb fun _ => ⟨.int _, H, I.tok _, ⟨_, rfl⟩, q⟩
def rInTD (K : PySem.W.Frag) (neg : Bool) : R2 := fun x y H Q => ∃ d ds, Dp K H x d ∧ Dp K H y (.tuple ds) ∧ SeqAt.shaped d = true ∧ SeqAt.shaped (.tuple ds) = true ∧ Q (.bl (if neg then !(ds.any fun z => PyData.eqv z d) else ds.any fun z => PyData.eqv z d)) H
theorem op_inTD {K : PySem.W.Frag} (e : X.K = K) (hu : X.A.units + 65 < cLine) : OpR X (compareOp .In) (rInTD K false) := by
  subst e
  intro pins s σ H x y v u Q I rx ry h
  obtain ⟨d, ds, hd, he, sd, se, q⟩ := h
  obtain ⟨as, r1⟩ := Dp.reads I d x v hd rx
  obtain ⟨bs, r2⟩ := Dp.reads I (.tuple ds) y u he ry
  exact SeqAt.in_tuple_reads r2 r1 (SeqAt.canLay_of_shaped se) (SeqAt.canLay_of_shaped sd) (PyProof.Rows.room_in_shaped sd hu) ⟨.bl _, H, I, rfl, q⟩
end
/-- [e for x in l] over a list of any things, with a reading of e by its place -/
theorem lmapI {K : PySem.W.Frag} {L : Addr} {xs : List V} {te el : TE} {sl : Nat} {σ : L2.St} {H : Hp} {Q : VK} (f : Nat → V) (hte : ∀ R : VK, R (.ref L) H → te σ H R) (hL : H L = some (.lst xs)) (ln : xs.length ≤ 3000)
    (hel : ∀ (j : Nat) (x : V), xs[j]? = some x → ∀ (Hc : Hp) (R : VK), Same H Hc → (∀ Hd, Same Hc Hd → R (f j) Hd) → el ((wipe σ [sl]).set sl (some x)) Hc R)
    (k : ∀ D H', H D = none → Same H H' → H' D = some (.lst ((List.range xs.length).map f)) → Q (.ref D) H') : tLc (iList K te) (gName sl) tYes el [sl] σ H Q := by
  refine hte _ ⟨L, rfl, ⟨_, SqL.of hL⟩, fun D hD => lc_it walk_list (fun i Hc => Hc D = some (.lst ((List.range i).map f)) ∧ Same H Hc) ⟨upd_same, same_new hD⟩ (fun i Hc _ hR => hR.2.seq (SqL.of hL)) (fun j x Hc H' hj hR hy => ?_) (fun Hc hR => k D Hc hD hR.2 hR.1)⟩
  obtain ⟨rfl, hx⟩ := hy
  obtain ⟨hDc, sc⟩ := hR
  refine ⟨by simp [wipe, List.set_set], ?_⟩
  dsimp only [tYes]
  rw [if_pos rfl]
  have lt : j < xs.length := (List.getElem?_eq_some_iff.mp hx).1
  refine hel j x hx _ _ sc fun Hd sd => ?_
  refine ⟨_, sd _ _ hDc, ?_, ?_, same_lst (sc.trans sd) hD⟩
  · rw [List.length_map, List.length_range]
    exact szL2 (by omega)
  · rw [upd_same, List.range_succ, List.map_append]
    rfl
theorem val_go {te : TE} {v : V} {σ : L2.St} {H : Hp} {Q : VK} (h : ∀ R : VK, R v H → te σ H R) (k : Q v H) : te σ H Q := h Q k
end Rs
/-! str(o) by an own __str__; texts of ints separated by blanks, and what such a text tells. -/
namespace Rs
open PySem PySem.Spec PyProof.Rows L2
section
variable {X : Cx} {CX : CXT} {C g : Addr} {n : Nat} {sp : Sp} {E : XK}
def rStrO (C : Addr) (sp : Sp) (E : XK) : List V → Hp → VK → Prop := fun xs H Q => ∃ a dx fs, xs = [.ref a] ∧ H a = some (.ins C dx fs) ∧ sp [.ref a] H (fun z H' => ∃ y, z = .str y ∧ Q (.str y) H') E
theorem call_strO (M : Meth X.K C "__str__" g) (F : FnR X.prog X.w X.K X.mg X.base CX n g sp) (hr : Room (n + 2) X.A) (hx : Passes CX X E) : CallR X (.type "str") (rStrO C sp E) := by
  intro pins s σ H xs us Q I r h
  obtain ⟨a, dx, fs, rfl, ha, q⟩ := h
  cases r with
  | cons r1 rr =>
    cases rr
    cases (show _ = Value.ref a from r1)
    obtain ⟨ox, od, J⟩ := ins_at I ha
    have hr1 : Room (n + 1) X.A.in1 := Room.in1 hr
    have hr2 : Room n X.A.in1.in1 := Room.in1 hr1
    refine PySem.W.kso_call (by have := hr2.un; omega) I.kIn J M.at_ M.fn ?_
    refine wpAny_mono (wpAny_call (SlX.run_at (us := [.ref a]) (ws := [.ref a]) F hr2 I.env0.in1.in1 hx I (.cons rfl .nil) q)) (fun w s' z => ?_) fun _ _ x => x
    obtain ⟨z', H', I', rz, y, ez, qz⟩ := z
    subst ez
    obtain ⟨t, rfl⟩ := rz
    exact ⟨.str y, H', I', ⟨t, rfl⟩, qz⟩
end
/-! ### texts -/
def nS (n : Int) : Str := Str.ofString (toString n)
def blank : Str := Str.ofString " "
def spaced (ns : List Int) : Str := Txt.join blank (ns.map nS)
theorem nS_free (n : Int) : 32 ∉ TL.tl (nS n) := fun h => (intText_free_32 n).mp h
theorem nS_len {n : Int} (h0 : 0 ≤ n) (h1 : n < 10 ^ 9) : (nS n).length ≤ 10 := by
  have e := PySem.int_text_length_le10 (a := n) (k := 9) (by decide) (by omega)
  unfold nS
  rw [PySem.ofString_length]
  omega
theorem nS_num {n : Int} (h0 : 0 ≤ n) (h1 : n < 10 ^ 9) : PySem.intText? (nS n) = some n := PySem.W.KIN.num_reads h0 (by omega)
theorem nS_inj {n m : Int} (h0 : 0 ≤ n) (h1 : n < 10 ^ 9) (g0 : 0 ≤ m) (g1 : m < 10 ^ 9) (e : nS n = nS m) : n = m := by
  have a := nS_num h0 h1
  rw [e, nS_num g0 g1] at a
  injection a with a
  exact a.symm
theorem nS_map_inj : ∀ {ns ms : List Int}, (∀ n ∈ ns, 0 ≤ n ∧ n < 10 ^ 9) → (∀ n ∈ ms, 0 ≤ n ∧ n < 10 ^ 9) → ns.map nS = ms.map nS → ns = ms
  | [], [], _, _, _ => rfl
  | [], _ :: _, _, _, h => by simp at h
  | _ :: _, [], _, _, h => by simp at h
  | n :: ns, m :: ms, hn, hm, h => by
    rw [List.map_cons, List.map_cons] at h
    injection h with h1 h2
    have a := hn n List.mem_cons_self
    have b := hm m List.mem_cons_self
    rw [nS_inj a.1 a.2 b.1 b.2 h1, nS_map_inj (fun x hx => hn x (List.mem_cons_of_mem _ hx)) (fun x hx => hm x (List.mem_cons_of_mem _ hx)) h2]
theorem nS_not {n : Int} {w : Str} (h0 : 0 ≤ n) (h1 : n < 10 ^ 9) (hw : PySem.intText? w = none) : nS n ≠ w := fun e => by
  have a := nS_num h0 h1
  rw [e, hw] at a
  cases a
theorem join_append {y : Str} : ∀ {a b : List Str}, a ≠ [] → b ≠ [] → Str.join y (a ++ b) = Str.join y a ++ (y ++ Str.join y b)
  | [], _, h, _ => absurd rfl h
  | [x], [], _, h => absurd rfl h
  | [x], z :: b, _, _ => by
    show x ++ y ++ Str.join y (z :: b) = x ++ (y ++ Str.join y (z :: b))
    rw [Str.append_assoc]
  | x :: z :: a, b, _, hb => by
    show x ++ y ++ Str.join y (z :: a ++ b) = x ++ y ++ Str.join y (z :: a) ++ (y ++ Str.join y b)
    rw [join_append (by simp) hb, Str.append_assoc (x ++ y)]
def front (few : List Int) : Str := if few = [] then Str.ofString "-" else spaced few
def calText (few : List Int) (e p : Int) (rests : List Int) : Str :=
  if rests = [] then front few else front few ++ (Str.ofString " from " ++ (nS e ++ (Str.ofString " of " ++ (nS p ++ (Str.ofString ": " ++ spaced rests)))))
def frontW (few : List Int) : List Str := if few = [] then [Str.ofString "-"] else few.map nS
def tailW (e p : Int) (rests : List Int) : List Str := if rests = [] then [] else Str.ofString "from" :: nS e :: Str.ofString "of" :: (nS p ++ Str.ofString ":") :: rests.map nS
theorem frontW_ne {few : List Int} : frontW few ≠ [] := by
  unfold frontW
  split
  · simp
  · rename_i h
    simpa using h
theorem front_join {few : List Int} : front few = Str.join blank (frontW few) := by
  unfold front frontW
  split
  · rfl
  · exact TL.join_eq _ _
theorem calText_join {few rests : List Int} {e p : Int} : calText few e p rests = Str.join blank (frontW few ++ tailW e p rests) := by
  unfold calText tailW
  split
  · rw [List.append_nil, front_join]
  · rename_i h
    rw [join_append frontW_ne (by simp), ← front_join]
    congr 1
    have e1 : Str.ofString " from " = blank ++ (Str.ofString "from" ++ blank) := by decide
    have e2 : Str.ofString " of " = blank ++ (Str.ofString "of" ++ blank) := by decide
    have e3 : Str.ofString ": " = Str.ofString ":" ++ blank := by decide
    obtain ⟨r, t, rfl⟩ := List.exists_cons_of_ne_nil h
    rw [e1, e2, e3]
    have e4 : spaced (r :: t) = Str.join blank (nS r :: t.map nS) := TL.join_eq _ _
    rw [e4]
    show _ = blank ++ (Str.ofString "from" ++ blank ++ (nS e ++ blank ++ (Str.ofString "of" ++ blank ++ ((nS p ++ Str.ofString ":") ++ blank ++ Str.join blank (nS r :: t.map nS)))))
    simp only [Str.append_assoc]
theorem words_split {w : Str} : ∀ {F G X Y : List Str}, (∀ a ∈ F, a ≠ w) → (∀ a ∈ G, a ≠ w) → (X = [] ∨ ∃ t, X = w :: t) → (Y = [] ∨ ∃ t, Y = w :: t) → F ++ X = G ++ Y → F = G ∧ X = Y
  | [], [], _, _, _, _, _, _, e => ⟨rfl, e⟩
  | [], g :: G, X, Y, _, hG, hX, _, e => by
    rcases hX with rfl | ⟨t, rfl⟩
    · simp at e
    · simp only [List.nil_append, List.cons_append] at e
      injection e with e1 _
      exact absurd e1.symm (hG g List.mem_cons_self)
  | f :: F, [], X, Y, hF, _, _, hY, e => by
    rcases hY with rfl | ⟨t, rfl⟩
    · simp at e
    · simp only [List.nil_append, List.cons_append] at e
      injection e with e1 _
      exact absurd e1 (hF f List.mem_cons_self)
  | f :: F, g :: G, X, Y, hF, hG, hX, hY, e => by
    simp only [List.cons_append] at e
    injection e with e1 e2
    obtain ⟨a, b⟩ := words_split (fun x hx => hF x (List.mem_cons_of_mem _ hx)) (fun x hx => hG x (List.mem_cons_of_mem _ hx)) hX hY e2
    rw [e1, a]
    exact ⟨rfl, b⟩
def Small (ns : List Int) : Prop := ∀ n ∈ ns, 0 ≤ n ∧ n < 10 ^ 9
theorem front_free {few : List Int} : ∀ a ∈ frontW few, 32 ∉ TL.tl a := by
  unfold frontW
  split
  · intro a ha
    rw [List.mem_singleton] at ha
    subst ha
    decide
  · intro a ha
    obtain ⟨n, _, rfl⟩ := List.mem_map.mp ha
    exact nS_free n
theorem tail_free {e p : Int} {rests : List Int} : ∀ a ∈ tailW e p rests, 32 ∉ TL.tl a := by
  unfold tailW
  split
  · intro a ha
    cases ha
  · intro a ha
    rcases List.mem_cons.mp ha with rfl | ha
    · decide
    rcases List.mem_cons.mp ha with rfl | ha
    · exact nS_free e
    rcases List.mem_cons.mp ha with rfl | ha
    · decide
    rcases List.mem_cons.mp ha with rfl | ha
    · rw [TL.tl_append]
      intro h
      rcases List.mem_append.mp h with h | h
      · exact nS_free p h
      · revert h
        decide
    · obtain ⟨n, _, rfl⟩ := List.mem_map.mp ha
      exact nS_free n
theorem front_not {few : List Int} (h : Small few) : ∀ a ∈ frontW few, a ≠ Str.ofString "from" := by
  unfold frontW
  split
  · intro a ha
    rw [List.mem_singleton] at ha
    subst ha
    decide
  · intro a ha
    obtain ⟨n, hn, rfl⟩ := List.mem_map.mp ha
    exact nS_not (h n hn).1 (h n hn).2 (by decide +kernel)
theorem tail_head {e p : Int} {rests : List Int} : tailW e p rests = [] ∨ ∃ t, tailW e p rests = Str.ofString "from" :: t := by
  unfold tailW
  split
  · exact .inl rfl
  · exact .inr ⟨_, rfl⟩
theorem front_inj {a b : List Int} (ha : Small a) (hb : Small b) (e : frontW a = frontW b) : a = b := by
  unfold frontW at e
  by_cases h1 : a = []
  · by_cases h2 : b = []
    · rw [h1, h2]
    · rw [if_pos h1, if_neg h2] at e
      obtain ⟨n, t, rfl⟩ := List.exists_cons_of_ne_nil h2
      rw [List.map_cons] at e
      injection e with e1 _
      exact absurd e1.symm (nS_not (hb n List.mem_cons_self).1 (hb n List.mem_cons_self).2 (by decide +kernel))
  · by_cases h2 : b = []
    · rw [if_pos h2, if_neg h1] at e
      obtain ⟨n, t, rfl⟩ := List.exists_cons_of_ne_nil h1
      rw [List.map_cons] at e
      injection e with e1 _
      exact absurd e1 (nS_not (ha n List.mem_cons_self).1 (ha n List.mem_cons_self).2 (by decide +kernel))
    · rw [if_neg h1, if_neg h2] at e
      exact nS_map_inj ha hb e
/-- what a calendar's text tells -/
theorem calText_inj {f1 f2 r1 r2 : List Int} {e1 e2 p1 p2 : Int} (hf1 : Small f1) (hf2 : Small f2) (hr1 : Small r1) (hr2 : Small r2) (he1 : 0 ≤ e1 ∧ e1 < 10 ^ 9) (he2 : 0 ≤ e2 ∧ e2 < 10 ^ 9) (hp1 : 0 ≤ p1 ∧ p1 < 10 ^ 9) (hp2 : 0 ≤ p2 ∧ p2 < 10 ^ 9)
    (h : calText f1 e1 p1 r1 = calText f2 e2 p2 r2) : f1 = f2 ∧ r1 = r2 ∧ (r1 ≠ [] → e1 = e2 ∧ p1 = p2) := by
  rw [calText_join, calText_join, ← TL.join_eq, ← TL.join_eq] at h
  have sp : ∀ {f r : List Int} {e p : Int}, Txt.split (Txt.join blank (frontW f ++ tailW e p r)) blank = frontW f ++ tailW e p r := fun {f r e p} =>
    TL.split_join (s := 32) (S := []) (by decide) (by decide +kernel) (fun z => frontW_ne (List.append_eq_nil_iff.mp z).1) fun a ha => by
      rcases List.mem_append.mp ha with ha | ha
      · exact front_free a ha
      · exact tail_free a ha
  have hw : Txt.split _ blank = Txt.split _ blank := congrArg (fun z => Txt.split z blank) h
  rw [sp, sp] at hw
  obtain ⟨a, b⟩ := words_split (front_not hf1) (front_not hf2) tail_head tail_head hw
  refine ⟨front_inj hf1 hf2 a, ?_⟩
  unfold tailW at b
  by_cases h1 : r1 = []
  · by_cases h2 : r2 = []
    · rw [h1, h2]
      exact ⟨rfl, fun z => absurd rfl z⟩
    · rw [if_pos h1, if_neg h2] at b
      cases b
  · by_cases h2 : r2 = []
    · rw [if_neg h1, if_pos h2] at b
      cases b
    · rw [if_neg h1, if_neg h2] at b
      injection b with _ b
      injection b with b1 b
      injection b with _ b
      injection b with b2 b
      have b3 : nS p1 = nS p2 := by
        have := congrArg TL.tl b2
        rw [TL.tl_append, TL.tl_append] at this
        exact TL.ext_tl (List.append_cancel_right this)
      exact ⟨nS_map_inj hr1 hr2 b, fun _ => ⟨nS_inj he1.1 he1.2 he2.1 he2.2 b1, nS_inj hp1.1 hp1.2 hp2.1 hp2.2 b3⟩⟩
theorem sum_len {ns : List Int} (h : Small ns) : ((ns.map nS).map (·.length)).sum ≤ 10 * ns.length := by
  induction ns with
  | nil => simp
  | cons n ns ih =>
    have a := nS_len (h n List.mem_cons_self).1 (h n List.mem_cons_self).2
    have b := ih fun x hx => h x (List.mem_cons_of_mem _ hx)
    simp only [List.map_cons, List.sum_cons, List.length_cons] at b ⊢
    omega
theorem spaced_len {ns : List Int} (h : Small ns) : (spaced ns).length ≤ 11 * ns.length := by
  unfold spaced
  rw [TL.join_eq]
  induction ns with
  | nil => exact Nat.le_refl _
  | cons n ns ih =>
    have a := nS_len (h n List.mem_cons_self).1 (h n List.mem_cons_self).2
    have b := ih fun x hx => h x (List.mem_cons_of_mem _ hx)
    cases ns with
    | nil =>
      show (nS n).length ≤ _
      simp only [List.length_cons, List.length_nil]
      omega
    | cons m ns =>
      show (nS n ++ blank ++ Str.join blank (nS m :: ns.map nS)).length ≤ _
      rw [Str.length_append, Str.length_append]
      have c : blank.length = 1 := by decide
      have d : (Str.join blank (nS m :: ns.map nS)).length ≤ 11 * (m :: ns).length := b
      simp only [List.length_cons] at d ⊢
      omega
/-- a value, with the heap only grown -/
theorem val_same {te : TE} {v : V} {σ : L2.St} {H : Hp} {Q : VK} (h : ∀ R : VK, (∀ H', Same H H' → R v H') → te σ H R) (k : ∀ H', Same H H' → Q v H') : te σ H Q := h Q k
/-- [e for n in t] over a tuple of ints -/
theorem lmapT {K : PySem.W.Frag} {a : Addr} {ns : List Int} {te el : TE} {sl : Nat} {σ : L2.St} {H : Hp} {Q : VK} (f : Int → V) (hte : ∀ R : VK, R (.ref a) H → te σ H R) (hS : SqT K H a (ns.map V.int)) (ln : ns.length ≤ 3000)
    (hel : ∀ n ∈ ns, ∀ (Hc : Hp) (R : VK), Same H Hc → R (f n) Hc → el ((wipe σ [sl]).set sl (some (.int n))) Hc R)
    (k : ∀ D H', H D = none → Same H H' → H' D = some (.lst (ns.map f)) → Q (.ref D) H') : tLc (iTup K te) (gName sl) tYes el [sl] σ H Q := by
  refine hte _ ⟨a, rfl, ⟨_, hS⟩, fun D hD => lc_it walk_tup (fun i Hc => Hc D = some (.lst ((ns.take i).map f)) ∧ Same H Hc) ⟨upd_same, same_new hD⟩ (fun i Hc _ hR => (Fz.of_same hR.2).sqT hS) (fun j x Hc H' hj hR hy => ?_) (fun Hc hR => ?_)⟩
  · obtain ⟨rfl, hx⟩ := hy
    obtain ⟨hDc, sc⟩ := hR
    rw [List.getElem?_map] at hx
    obtain ⟨n, hn, rfl⟩ := Option.map_eq_some_iff.mp hx
    refine ⟨by simp [wipe, List.set_set], ?_⟩
    dsimp only [tYes]
    rw [if_pos rfl]
    refine hel n (List.mem_of_getElem? hn) _ _ sc ⟨_, hDc, ?_, ?_, same_lst sc hD⟩
    · rw [List.length_map, List.length_take]
      exact szL2 (by omega)
    · rw [upd_same, take_snoc hn, List.map_append]
      rfl
  · rw [List.length_map, List.take_length] at hR
    exact k D Hc hD hR.2 hR.1
end Rs
/-! f"{n:+d}" -/
namespace Rs
open PySem PySem.Spec PyProof.Rows L2
/-- the text of n with its sign -/
def plusS (n : Int) : Str := if n < 0 then nS n else Str.ofString "+" ++ nS n
theorem signs_neg {n : Int} (h : n < 0) : TL.tl (nS n) = 45 :: (Nat.toDigits 10 n.natAbs).map Char.toNat := by
  obtain ⟨m, rfl⟩ : ∃ m : Nat, n = Int.negSucc m := ⟨(-n - 1).toNat, by omega⟩
  unfold nS
  rw [TL.tl_ofString]
  show ("-" ++ Nat.repr (m + 1)).toList.map Char.toNat = _
  rw [String.toList_append, List.map_append, Nat.toList_repr]
  rfl
theorem signs_pos {n : Int} (h : 0 ≤ n) : TL.tl (nS n) = (Nat.toDigits 10 n.natAbs).map Char.toNat := by
  obtain ⟨m, rfl⟩ := Int.eq_ofNat_of_zero_le h
  exact PySem.W.KIN.signs_num m
theorem digits_ne {m : Nat} : (Nat.toDigits 10 m).map Char.toNat ≠ [] := by
  intro h
  have := List.map_eq_nil_iff.mp h
  have l := Nat.toDigits_ne_nil (n := m) (b := 10)
  exact l this
theorem map_plain {l : List Char} : (l.map fun c => (if ((100 : Nat) == 88) = true then c.toUpper else c).toNat) = l.map Char.toNat := rfl
theorem plus_text {n : Int} : PyProof.Rows.intField' { align := 62, sign := some 43, type := some 100 } (decide (n < 0)) [] ((Nat.toDigits 10 n.natAbs).map fun c => (if ((100 : Nat) == 88) = true then c.toUpper else c).toNat) [] 3 = plusS n := by
  refine TL.ext_tl ?_
  rw [map_plain]
  have ne := @digits_ne n.natAbs
  unfold plusS
  by_cases h : n < 0
  · rw [if_pos h, signs_neg h]
    rw [decide_eq_true h]
    generalize (Nat.toDigits 10 n.natAbs).map Char.toNat = ds at ne
    unfold PyProof.Rows.intField'
    cases ds with
    | nil => exact absurd rfl ne
    | cons d ds =>
      simp [TL.tl]
      omega
  · rw [if_neg h, TL.tl_append, signs_pos (by omega)]
    rw [decide_eq_false h]
    generalize (Nat.toDigits 10 n.natAbs).map Char.toNat = ds at ne
    unfold PyProof.Rows.intField'
    cases ds with
    | nil => exact absurd rfl ne
    | cons d ds =>
      simp [TL.tl]
      have z : (-2 - ((ds.length : Int) + 1)).toNat = 0 := by omega
      rw [z, show (Str.ofString "+").cps.toList = [43] by decide]
      rfl
theorem plus_len {n : Int} (h : n.natAbs < 10 ^ 18) : (plusS n).length ≤ 20 := by
  have e := PySem.int_text_length_le10 (a := n) (k := 18) (by decide) h
  have l : (nS n).length ≤ 19 := by
    unfold nS
    rw [PySem.ofString_length]
    omega
  unfold plusS
  split
  · omega
  · rw [Str.length_append]
    have : (Str.ofString "+").length = 1 := by decide
    omega
theorem log_small {n : Int} (h : n.natAbs < 10 ^ 18) : n.natAbs.log2 < 1920 := by
  by_cases z : n.natAbs = 0
  · rw [z]; decide
  · refine (Nat.log2_lt z).mpr (Nat.lt_of_lt_of_le h ?_)
    exact Nat.le_trans (show 10 ^ 18 ≤ 2 ^ 64 by decide) (Nat.pow_le_pow_right (by decide) (by decide))
theorem ret_text2 {M : Model} {A : Around} {E : Value → Shared → Prop} {s : Shared} {X T : Str} {Q : PySem.Fin → Shared → Prop} (hl : T.length ≤ sizeLine) (e : X = T) (h : ∀ t k, Q (.done (.ret (.str T t))) { s with toks := k }) : wpAny M A (retStr X) Q E s := PySem.W.KXf.ret_text e (by rw [e]; exact hl) h
theorem fmt_tree {n : Int} {t u : Tok} (h : n.natAbs < 10 ^ 18) : Meets (Builtin.«int.__format__» ⟨[.int n t, .str (Str.ofString "+d") u], []⟩) (fun _ R s => ∀ t' k, R (.ok (.ret (.str (plusS n) t'))) { s with toks := k }) := by
  apply PySem.W.KPc.meets_of
  intro prog w A s Q E hq
  have hl : (plusS n).length ≤ sizeLine := Nat.le_trans (plus_len h) (by rw [sizeLine_eq]; decide)
  have hlog := log_small h
  unfold Builtin.«int.__format__»
  repeat (first
    | (with_reducible refine ret_text2 (T := plusS n) hl ?_ hq)
    | (refine wpAny_bind (wpAny_of_eq (overDigitLimit_small (log_small h)) ?_))
    | wp_step)
  conv =>
    lhs
    arg 1
    change ({ align := 62, sign := some 43, type := some 100 } : PySem.Builtin.Float.FormatSpec)
  conv =>
    lhs
    arg 3
    change ([] : List Nat)
  conv =>
    lhs
    arg 4
    change ((Nat.toDigits 10 n.natAbs).map fun c => (if ((100 : Nat) == 88) = true then c.toUpper else c).toNat)
  conv =>
    lhs
    arg 6
    change 3
  exact plus_text
/-- {e:+d} -/
def tFmtPlus (te : TE) : TE := fun σ H Q => te σ H fun x H1 => ∃ i : Int, x = .int i ∧ i.natAbs < 10 ^ 18 ∧ Q (.str (plusS i)) H1
theorem pe_fmtPlus {X : Cx} {e spec : Expr} {te : TE} {pos : Pos} (he : PE X e te) (hs : PE X spec (tC (.str (Str.ofString "+d")))) : PE X (.FormattedValue e (-1) (some spec) pos) (tFmtPlus te) := by
  refine ⟨fun pins s σ H Q I h => ?_⟩
  refine wpAny_FormattedValue_spec (thn (he.run pins s σ H _ I h) fun v s1 hv => ?_)
  obtain ⟨x, H1, I1, r1, i, rfl, hz, q⟩ := hv
  obtain ⟨t, rfl⟩ := r1
  refine thn (hs.run pins s1 σ H1 (fun y H2 => y = .str (Str.ofString "+d") ∧ H2 = H1) I1 ⟨rfl, rfl⟩) fun r s2 hr => ?_
  obtain ⟨y, H2, I2, r2, rfl, rfl⟩ := hr
  obtain ⟨u, rfl⟩ := r2
  refine ⟨_, u, rfl, ?_⟩
  exact PySem.W.KXf.field_int rfl (by decide +kernel) (by decide +kernel) (fun u => fmt_tree hz) fun t' k => ⟨.str (plusS i), H2, I2.tok k, ⟨t', rfl⟩, q⟩
end Rs
/-! {o} in an f-string, o of a class with its own __str__ -/
namespace Rs
open PySem PySem.Spec PyProof.Rows L2
structure FmtO (K : PySem.W.Frag) (C : Addr) : Prop where
  fmt : PySem.W.findIn K (.ref C) "__format__" = some (some (.builtin "object.__format__"))
  obj : PySem.W.mroIn K C (.type "object") = some true
section
variable {X : Cx} {CX : CXT} {C g : Addr} {n : Nat} {sp : Sp} {E : XK}
def tFmtO (C : Addr) (sp : Sp) (E : XK) (te : TE) : TE := fun σ H Q => te σ H fun x H1 => ∃ a dx fs, x = .ref a ∧ H1 a = some (.ins C dx fs) ∧ sp [.ref a] H1 (fun z H' => ∃ y, z = .str y ∧ Q (.str y) H') E
theorem pe_fmtO {e : Expr} {te : TE} {pos : Pos} (he : PE X e te) (O : FmtO X.K C) (M : Meth X.K C "__str__" g) (F : FnR X.prog X.w X.K X.mg X.base CX n g sp) (hr : Room (n + 1) X.A) (hx : Passes CX X E) : PE X (.FormattedValue e (-1) none pos) (tFmtO C sp E te) := by
  refine ⟨fun pins s σ H Q I h => ?_⟩
  refine wpAny_FormattedValue_plain (thn (he.run pins s σ H _ I h) fun v s1 hv => ?_)
  obtain ⟨x, H1, I1, r1, a, dx, fs, rfl, ha, q⟩ := hv
  cases (show v = Value.ref a from r1)
  obtain ⟨ox, od, J⟩ := ins_at I1 ha
  have hr1 : Room n X.A.in1 := Room.in1 hr
  refine PySem.W.kfo_fieldS (by have := hr1.un; omega) I1.kIn J O.fmt O.obj M.at_ M.fn ?_
  refine wpAny_mono (wpAny_call (SlX.run_at (us := [.ref a]) (ws := [.ref a]) F hr1 (I1.tok (s1.toks + 1)).env0.in1 hx (I1.tok (s1.toks + 1)) (.cons rfl .nil) q)) (fun w s' z => ?_) fun _ _ x => x
  obtain ⟨z', H', I', rz, y, ez, qz⟩ := z
  subst ez
  obtain ⟨t, rfl⟩ := rz
  exact ⟨.str y, H', I', ⟨t, rfl⟩, qz⟩
end
end Rs
/-! comprehensions within comprehensions -/
namespace Rs
open PySem PySem.Spec PyProof.Rows L2
def relabelS (scope sc : Scope) : Scope :=
  { scope with names := scope.names.map fun (n, k) => if (k == .free && sc.kind == .function && sc.names.lookup n == some .cell) then (n, .cell) else (n, k) }
theorem relabel_eq (scope : Scope) (env : Env) : relabel scope env = relabelS scope env.scope := rfl
theorem pi_tupK {X : Cx} {K : PySem.W.Frag} {tg l : Expr} {tl : TE} (e : X.K = K) (hl : PE X l tl) : PI X tg l (iTup K tl) := by
  subst e
  exact pi_tup hl
theorem pi_listK {X : Cx} {K : PySem.W.Frag} {tg l : Expr} {tl : TE} (e : X.K = K) (hl : PE X l tl) : PI X tg l (iList K tl) := by
  subst e
  exact pi_list hl
/-- [n for n in range(hi) if t], where the test may make new objects -/
theorem lcondH {targ : TA} {tt : TT} {sl : Nat} {σ : L2.St} {H : Hp} {Q : VK} {hi : Int} (f : Int → Bool) (b3 : -1000 ≤ hi) (b4 : hi ≤ 3000) (harg : ∀ R : List V → Hp → Prop, R [.int hi] H → targ σ H R) (hl : sl < σ.length)
    (htt : ∀ n Hc (R : Bool → Hp → Prop), 0 ≤ n → n < hi → Same H Hc → (∀ Hd, Same Hc Hd → R (f n) Hd) → tt ((wipe σ [sl]).set sl (some (.int n))) Hc R)
    (k : ∀ D H', H D = none → Same H H' → H' D = some (.lst ((((List.range hi.toNat).map fun i : Nat => (i : Int)).filter f).map V.int)) → Q (.ref D) H') : tLc (iRng1 targ) (gName sl) tt (tVar sl) [sl] σ H Q := by
  refine harg _ ⟨hi, rfl, by omega, by omega, fun D hD => ?_⟩
  refine lc_range (lo := 0) (fun i Hc => Hc D = some (.lst ((((List.range i).map fun i : Nat => (i : Int)).filter f).map V.int)) ∧ Same H Hc) ⟨upd_same, same_new hD⟩ (fun i Hc hi' hP => ?_) (fun Hc hP => ?_)
  · obtain ⟨hDc, sc⟩ := hP
    rw [Int.zero_add]
    refine ⟨by simp [wipe, List.set_set], htt _ _ _ (by omega) (by omega) sc fun Hd sd => ?_⟩
    have z : ((List.range (i + 1)).map fun i : Nat => (i : Int)).filter f = ((List.range i).map fun i : Nat => (i : Int)).filter f ++ (if f (i : Int) = true then [(i : Int)] else []) := by
      rw [range_succ_map, List.filter_append, List.filter_cons, List.filter_nil]
    refine ifB (fun g => ?_) (fun g => ?_)
    · rw [if_pos g] at z
      refine ⟨.int (i : Nat), by simp [wipe, List.getElem?_set, hl], _, sd _ _ hDc, ?_, ?_, same_lst (sc.trans sd) hD⟩
      · rw [List.length_map]
        have := List.length_filter_le f ((List.range i).map fun i : Nat => (i : Int))
        rw [List.length_map, List.length_range] at this
        exact szL2 (by omega)
      · rw [upd_same, z, List.map_append]
        rfl
    · rw [if_neg (by rw [g]; exact Bool.false_ne_true), List.append_nil] at z
      rw [z]
      exact ⟨sd _ _ hDc, sc.trans sd⟩
  · exact k D Hc hD hP.2 hP.1
/-- [e for x in L if t], t never true -/
theorem lnone {K : PySem.W.Frag} {L : Addr} {xs : List V} {te el : TE} {tt : TT} {sl : Nat} {σ : L2.St} {H : Hp} {Q : VK} (hte : ∀ R : VK, (∀ H1, Same H H1 → H1 L = some (.lst xs) → R (.ref L) H1) → te σ H R)
    (htt : ∀ x ∈ xs, ∀ (Hc : Hp) (R : Bool → Hp → Prop), Same H Hc → (∀ Hd, Same Hc Hd → R false Hd) → tt ((wipe σ [sl]).set sl (some x)) Hc R)
    (k : ∀ D H', H D = none → Same H H' → H' D = some (.lst []) → Q (.ref D) H') : tLc (iList K te) (gName sl) tt el [sl] σ H Q := by
  refine hte _ fun H1 s1 hL => ⟨L, rfl, ⟨_, SqL.of hL⟩, fun D hD => lc_it walk_list (fun i Hc => Hc D = some (.lst []) ∧ Same H1 Hc) ⟨upd_same, same_new hD⟩ (fun i Hc _ hR => hR.2.seq (SqL.of hL)) (fun j x Hc H' hj hR hy => ?_) (fun Hc hR => ?_)⟩
  · obtain ⟨rfl, hx⟩ := hy
    obtain ⟨hDc, sc⟩ := hR
    exact ⟨by simp [wipe, List.set_set], htt x (List.mem_of_getElem? hx) _ _ (s1.trans sc) fun Hd sd => ifF rfl ⟨sd _ _ hDc, sc.trans sd⟩⟩
  · exact k D Hc (s1.free hD) (s1.trans hR.2) hR.1
/-- a statement that goes on in several ways, all of which hold C -/
theorem seq_k {t rest : TS} {D : Ends} {σ : L2.St} {H : Hp} (C : L2.St → Hp → Prop) (k : ∀ σ' H', C σ' H' → rest D σ' H') (h : ∀ R : L2.St → Hp → Prop, (∀ σ' H', C σ' H' → R σ' H') → t { D with nx := R } σ H) : tSeq t rest D σ H := h _ k
end Rs
/-! A def's promise at one stand of the machine (what runs around it known), so that repr of lists and tuples can be told. -/
namespace Rs
open PySem PySem.Spec PyProof.Rows L2
/-- the promise of the def at f, called where A runs around -/
structure At (A : Around) (P : Program) (w : World) (K : PySem.W.Frag) (mg : Str → Option Value) (base : Heap) (CX : CXT) (k : Nat) (f : Addr) (ps : List Str) (fd : FuncData) (sp : Sp) : Prop where
  len : ∀ vs H Q E, sp vs H Q E → vs.length = ps.length
  go : ∀ (outer : List Env) (s : Shared) (H : Hp) (args : Args) (us : List Value) (vs : List V) (Q : VK) (E : XK), Room k A → Env0 P w K mg base A outer s H → BindsTo s fd args (ps.zip us) → Vals vs us → sp vs H Q E → codeAny (model P w) A (.call (.ref f) args) (CR CX outer P w H s Q E) s
section
variable {P : Program} {w : World} {K : PySem.W.Frag} {mg : Str → Option Value} {base : Heap}
theorem fun_at {A : Around} {x qual : Str} {st : Stmt} {f : Addr} {fd : FuncData} {N ps : List Str} {k : Nat} {CX : CXT} {sp : Sp} (F : Fun K x qual st f fd) (S : FnScope N ps (defScope st)) (len : ∀ vs H Q E, sp vs H Q E → vs.length = ps.length)
    (body : ∀ (cdv : Value) (outer : List Env) (s : Shared) (H : Hp) (vs : List V) (Q : VK) (E : XK), Room k (A.deeper (envOfC qual (defScope st) s.heap.objs.size f cdv)) → sp vs H Q E →
      ∃ t, PSs (cxOf CX P w K mg base N qual (defScope st) f cdv A outer s H E) (defBody st) t ∧ t { nx := fun _ H' => Q .non H', rt := Q } (start N vs) H) : At A P w K mg base CX (k + 1) f ps fd sp := by
  obtain ⟨oc, od, kV, doc, pm, an, cdv, ct, osl, rfl, lk, code⟩ := F.ex
  refine ⟨len, fun outer s H args us vs Q E room st0 bind rel pre => ?_⟩
  have nargs := len vs H Q E pre
  have inK : K.In s.heap := st0.mod.kin.keeps fun b o hb => (st0.bs b o hb).1
  have free : s.heap.NoLimit := st0.mod.nolimit.keeps fun b o hb => (st0.bs b o hb).1
  refine codeAny_call_function room.depth (inK _ _ lk) rfl S.co S.gen rfl (PySem.W.codeRec_of inK code) (bind _ _ _ _ ?_)
  have kinds : ∀ y ∈ ps.zip us, (defScope st).names.lookup y.1 = some .local ∨ ((defScope st).names.lookup y.1 = some .cell ∧ ((cellsFrom (s.heap.objs.size + 1) (defScope st).names []).lookup y.1).isSome = true) := by
    rintro ⟨n, v⟩ mem
    exact (S.par n (List.of_mem_zip mem).1).elim .inl fun q => .inr ⟨q, PySem.W.cellsFrom_some _ _ _ (.inl q)⟩
  refine wpAny_newFunctionEnv_cells S.kind kinds fun env eq s1 x => ?_
  subst eq
  refine ⟨free.keeps x.toInCall.keep, codeAny_func ?_⟩
  obtain ⟨t, der, rd⟩ := body cdv outer s H vs Q E (room.deeper _) pre
  have inv0 := inv_start (CX := CX) (E := E) S room.hd st0 nargs rel x
  refine wpAny_mono (der.run [] s1 (start N vs) H _ inv0 rd) (fun way s' out => ?_) fun e s' out => out
  cases way with
  | brk => obtain ⟨_, _, _, no⟩ := out; exact no.elim
  | cont => obtain ⟨_, _, _, no⟩ := out; exact no.elim
  | ret u =>
    obtain ⟨v, σ', H', J, rv, q⟩ := out
    exact (⟨v, H', J.os, J.bare, J.base, J.hok, rv, q⟩ : CE outer P w H s Q u s')
  | next =>
    obtain ⟨σ', H', J, q⟩ := out
    exact (⟨V.non, H', J.os, J.bare, J.base, J.hok, rfl, q⟩ : CE outer P w H s Q Value.none s')
end
/-! f(e, ..), its promise told where the body of the caller stands -/
section
variable {X : Cx} {CX : CXT} {k : Nat} {f : Addr} {fd : FuncData} {ps : List Str} {sp : Sp} {E : XK}
theorem pe_callAt {x : Str} {p pos : Pos} {e : Expr} {es : List Expr} {t : TA} (F : At X.A X.prog X.w X.K X.mg X.base CX k f ps fd sp) (hr : Room k X.A) (hg : Gl X x) (hm : X.mg x = some (.ref f)) (hk : PySem.W.keepIn X.K (.ref f) = true) (hb : Binds X.K fd ps []) (hx : Passes CX X E)
    (ha : PA X (e :: es) t) (hdb : (x == ("__debug__" : Str)) = false := by decide) (he : starEach (e :: es) X.env = (false, eval e X.env) :: starEach es X.env := by rfl) (hpl : (backTo pos (starEach es X.env)).any (·.1) = false := by rfl) :
    PE X (.Call (.Name x p) (e :: es) [] pos) (tCall sp [] E t) := by
  refine ⟨fun pins s σ H Q I h => wpAny_Call_Name_kw (ld_glob I hg hm ?_ hdb)⟩
  refine PySem.W.callWith_K (h₀ := X.base) I.ok.mod.kin hk (thn (ha.run pos pins s σ H _ I h) fun us s1 res => ?_) he hpl
  obtain ⟨vs, H1, I1, rel, pre⟩ := res
  rw [List.append_nil] at pre
  have n1 := F.len _ _ _ _ pre
  have n2 : (us ++ []).length = ps.length := by rw [List.append_nil, ← rel.length]; exact n1
  have bd := hb s1 us I1.kIn n2
  rw [List.append_nil] at bd
  refine ⟨I1.kIn, wpAny_call (codeAny_mono (F.go X.stack s1 H1 ⟨us, []⟩ us vs Q E hr I1.env0 bd rel pre) fun r s' out => ?_)⟩
  cases r with
  | error e => exact hx pins σ H1 s1 e s' I1 out
  | ok fl =>
    cases fl with
    | ret u => exact I1.after out
    | next => exact out.elim
    | brk => exact out.elim
    | cont => exact out.elim
end
/-! ### the law's own call -/
/-- what is tracked at the law's call: the script alone, if the top does not hold it -/
def scriptH (K : PySem.W.Frag) (a : Addr) (vs : List Value) (ns : List Int) : Hp := fun b =>
  if b = a ∧ K.lookup a = none then some (.frz { cls := .type "list", data := .seq vs.toArray } (.lst (ns.map V.int))) else none
theorem scriptH_some {K : PySem.W.Frag} {a : Addr} {vs : List Value} {ns : List Int} {b : Addr} {u : HO} (h : scriptH K a vs ns b = some u) : b = a ∧ K.lookup a = none ∧ u = .frz { cls := .type "list", data := .seq vs.toArray } (.lst (ns.map V.int)) := by
  unfold scriptH at h
  by_cases c : b = a ∧ K.lookup a = none
  · rw [if_pos c] at h
    exact ⟨c.1, c.2, (Option.some.inj h).symm⟩
  · rw [if_neg c] at h
    cases h
theorem law_at {P : Program} {w : World} {K : PySem.W.Frag} {mg mb : Str → Option Value} {k : Nat} {fa a : Addr} {fd : FuncData} {x : Str} {sp : Sp} {s₁ : Shared} {vs : List Value} {ns : List Int}
    (inK : K.In s₁.heap) (glb : s₁.heap.Ns mainGlobals mg) (blt : s₁.heap.Ns builtinsNs mb) (blt2 : ∀ x : Str, x ≠ "__name__" → mb x = bootBuiltins x) (free : s₁.heap.NoLimit) (nogen : s₁.gens = #[])
    (obj : s₁.heap.get? a = some { cls := .type "list", data := .seq vs.toArray }) (nums : IntsAre vs ns) (small : ns.length ≤ sizeLine) (room : Room k callerA)
    (F : ∀ base : Heap, K.In base → base.Ns mainGlobals mg → At callerA P w K mg base CX0 k fa [x] fd sp) (bind : ∀ (s : Shared) (u : Value), BindsTo s fd ⟨[u], []⟩ [(x, u)])
    (pre : ∀ H : Hp, SqL K H a (ns.map V.int) → sp [.ref a] H (fun v _ => v = .bl true) fun _ _ _ => False) :
    codeAny (model P w) callerA (.call (.ref fa) ⟨[.ref a], []⟩) (fun r s' => r = .ok (.ret (.bool true)) ∧ OldK s₁.heap s'.heap ∧ s'.os = s₁.os ∧ AllBare s'.gens) s₁ := by
  have rel := vals_ints nums
  have len := nums.length
  have ok : HOk P w (scriptH K a vs ns) s₁.heap := fun b u hb => by
    obtain ⟨rfl, _, rfl⟩ := scriptH_some hb
    exact ⟨obj, by rw [List.length_map]; exact small, vs, _, rel, obj⟩
  have seen : SqL K (scriptH K a vs ns) a (ns.map V.int) := by
    cases c : K.lookup a with
    | none => exact .inl (.inr ⟨_, if_pos ⟨rfl, c⟩⟩)
    | some o =>
      have q := inK a o c
      rw [obj] at q
      cases q
      exact .inr ⟨_, vs.toArray, _, c, rfl, rfl, rfl, by rw [List.size_toArray, len]; exact small, by simpa using rel⟩
  have hid : ∀ {b : Addr} {o : Obj}, s₁.heap.get? b = some o → scriptH K a vs ns b = none → (hidT s₁.heap (scriptH K a vs ns)).get? b = some o := fun e n => hidT_get e n
  have none_of : ∀ {b : Addr} {o : Obj}, s₁.heap.get? b = some o → (b = a → K.lookup a = none → False) → scriptH K a vs ns b = none := fun {b o} _ no => by
    cases q : scriptH K a vs ns b with
    | none => rfl
    | some u =>
      obtain ⟨h1, h2, _⟩ := scriptH_some q
      exact (no h1 h2).elim
  have nsH : ∀ {b : Addr} {m : Str → Option Value}, s₁.heap.Ns b m → (hidT s₁.heap (scriptH K a vs ns)).Ns b m := fun {b m} n => by
    obtain ⟨o, es, ep, e, d, r⟩ := n
    refine ⟨o, es, ep, hid e (none_of e fun h1 _ => ?_), d, r⟩
    subst h1
    rw [obj] at e
    cases e
    have d' : Data.seq vs.toArray _ = Data.dict es ep := d
    cases d'
  have kH : K.In (hidT s₁.heap (scriptH K a vs ns)) := fun b o e => hid (inK b o e) (none_of (inK b o e) fun h1 h2 => by
    subst h1
    rw [h2] at e
    cases e)
  have mod : Mod K mg (hidT s₁.heap (scriptH K a vs ns)) := ⟨kH, nsH glb, ⟨mb, nsH blt, blt2⟩, let ⟨c, h1, h2⟩ := free; ⟨c, nsH h1, h2⟩⟩
  have st0 : Env0 P w K mg (hidT s₁.heap (scriptH K a vs ns)) callerA [] s₁ (scriptH K a vs ns) :=
    ⟨rfl, mod, fun b o e => of_hidT e, Nat.le_of_eq (hidT_size _ _), trivial, fun b hb => absurd (show b ∈ ([] : List Addr) from hb) List.not_mem_nil, ok, .of_eq nogen⟩
  refine codeAny_mono ((F _ kH (nsH glb)).go [] s₁ (scriptH K a vs ns) ⟨[.ref a], []⟩ [.ref a] [.ref a] _ _ room st0 (bind s₁ (.ref a)) (.cons rfl .nil) (pre _ seen)) fun r s' out => ?_
  cases r with
  | error e => exact out.elim
  | ok fl =>
    cases fl with
    | next => exact out.elim
    | brk => exact out.elim
    | cont => exact out.elim
    | ret u =>
      obtain ⟨v, H', os, bare, un, ok', rv, q⟩ := out
      obtain rfl : v = .bl true := q
      obtain rfl : u = Value.bool true := rv
      refine ⟨rfl, OldK.of_keep fun b o e => ?_, os, bare⟩
      cases c : scriptH K a vs ns b with
      | none => exact un.keep b o e c (fun z => absurd (show b ∈ ([] : List Addr) from z) List.not_mem_nil) (by simp)
      | some u =>
        obtain ⟨_, _, rfl⟩ := scriptH_some c
        obtain ⟨e1, _⟩ := ok b _ c
        obtain ⟨e2, _⟩ := ok' b _ (un.frzs b _ _ c)
        rw [e] at e1
        cases e1
        exact e2
theorem walk_at_of {l : PySem.W.OpenLaw} {n k : Nat} {q : Program} {loose : List Str} {XP : (Str → Option Value) → Heap → Prop} {YP : World → Heap → Prop} {d : DefRec} {K : Params → PySem.W.Frag} {sp : World → Sp} {x : Str}
    (most : l.most = some n) (small : n ≤ sizeLine) (nodef : d.params.defaults = []) (room : Room k callerA) (inK : ∀ (w : World) (h : Heap), YP w h → (K w.params).In h)
    (F : ∀ (w : World) (mg : Str → Option Value) (fa : Addr) (h : Heap), (K w.params).In h → h.Ns mainGlobals mg → mg d.name = some (.ref fa) →
      ∃ fd : FuncData, (∀ (s : Shared) (u : Value), BindsTo s fd ⟨[u], []⟩ [(x, u)]) ∧ ∀ base : Heap, (K w.params).In base → base.Ns mainGlobals mg → At callerA l.prog w (K w.params) mg base CX0 k fa [x] fd (sp w))
    (pre : ∀ (w : World) (H : Hp) (a : Addr) (ns : List Int), ns.length ≤ n → SqL (K w.params) H a (ns.map V.int) → sp w [.ref a] H (fun v _ => v = .bl true) fun _ _ _ => False) :
    PySem.W.WalkO q loose XP YP l.row.toRowW d [] (fun f vs => PySem.call f vs) :=
  Att.attach_call most nodef fun w s₀ s₁ mg mb fa o pm cd doc a vs ns G Y ho hd hcd hmg obj nums len nogen => by
    have kx := inK w _ Y
    obtain ⟨fd, bind, promise⟩ := F w mg fa _ kx G.T.g hmg
    exact law_at kx G.T.g G.T.b G.T.builtins G.T.nolimit nogen obj nums (Nat.le_trans len small) room promise bind fun H hS => pre w H a ns len hS
/-! ### repr -/
theorem guards_deeper {A : Around} {env : Env} (h : A.guards = some []) : (A.deeper env).guards = some [] := h
def rRepr (K : PySem.W.Frag) : List V → Hp → VK → Prop := fun xs H Q => ∃ v d, xs = [v] ∧ Dp K H v d ∧ d.showable = true ∧ d.hasDict = false ∧ d.depth ≤ 60 ∧ d.shown.length ≤ sizeLine ∧ Q (.str d.shown) H
theorem call_reprD {X : Cx} {k : Nat} (hr : Room k X.A) (hg : X.A.guards = some []) : CallR X (.builtin "repr") (rRepr X.K) := by
  intro pins s σ H xs us Q I r h
  obtain ⟨v, d, rfl, hd, sh, nd, dp, ln, q⟩ := h
  obtain ⟨u, rfl, ru⟩ := vals1 r
  cases hd with
  | non => obtain rfl : u = Value.none := ru; exact PySem.P.repr_of_none ⟨.str _, H, I.tok _, ⟨_, rfl⟩, q⟩
  | bl b =>
    obtain rfl : u = Value.bool b := ru
    refine PySem.P.repr_of_bool ⟨.str _, H, I.tok _, ⟨_, rfl⟩, ?_⟩
    exact q
  | int i =>
    obtain ⟨t, rfl⟩ := (show ∃ t, u = Value.int i t from ru)
    exact PySem.P.repr_of_int (by simpa [PyData.showable] using sh) ⟨.str _, H, I.tok _, ⟨_, rfl⟩, q⟩
  | str x =>
    obtain ⟨t, rfl⟩ := (show ∃ t, u = Value.str x t from ru)
    exact PySem.P.repr_of_str ⟨.str _, H, I.tok _, ⟨_, rfl⟩, q⟩ ln
  | lst h1 h2 =>
    obtain ⟨as, rd⟩ := Dp.reads I _ _ u (.lst h1 h2) ru
    cases (show u = Value.ref _ from ru)
    exact repr_of_reads' rd sh (fun z => by rw [nd] at z; cases z) hg (by have := hr.units; omega) (fun _ _ e => e) (fun h' t tk hk => ⟨.str _, H, I.kept (t' := tk) hk, ⟨_, rfl⟩, q⟩) ln
  | tup h1 h2 =>
    obtain ⟨as, rd⟩ := Dp.reads I _ _ u (.tup h1 h2) ru
    cases (show u = Value.ref _ from ru)
    exact repr_of_reads' rd sh (fun z => by rw [nd] at z; cases z) hg (by have := hr.units; omega) (fun _ _ e => e) (fun h' t tk hk => ⟨.str _, H, I.kept (t' := tk) hk, ⟨_, rfl⟩, q⟩) ln
section
variable {P : Program} {w : World} {K : PySem.W.Frag} {mg : Str → Option Value} {base : Heap}
/-- the same where nothing is let out -/
theorem fun_at0 {A : Around} {x qual : Str} {st : Stmt} {f : Addr} {fd : FuncData} {N ps : List Str} {k : Nat} {sp : Sp} (F : Fun K x qual st f fd) (S : FnScope N ps (defScope st)) (len : ∀ vs H Q E, sp vs H Q E → vs.length = ps.length)
    (body : ∀ (cdv : Value) (outer : List Env) (s : Shared) (H : Hp) (vs : List V) (Q : VK) (E : XK), Room k (A.deeper (envOfC qual (defScope st) s.heap.objs.size f cdv)) → sp vs H Q E →
      ∃ t, PSs (cxOf CX0 P w K mg base N qual (defScope st) f cdv A outer s H E).nox (defBody st) t ∧ t { nx := fun _ H' => Q .non H', rt := Q } (start N vs) H) : At A P w K mg base CX0 (k + 1) f ps fd sp :=
  fun_at F S len fun cdv outer s H vs Q E hr hsp => by
    obtain ⟨t, h, q⟩ := body cdv outer s H vs Q E hr hsp
    exact ⟨t, h.nox, q⟩
end
end Rs
/-! == of tuples whose items are compared by an own __eq__, with either answer. -/
namespace Rs
open PySem PySem.Spec PyProof.Rows L2 GQ

open MeetsSeq MeetsSeq2 MeetsSeq3 SeqRoads2
section
variable {prog : Program} {w : World} {A : Around} {R : Result → Shared → Prop}
/-- the items are looked at in turn: f i tells whether the i-th two are equal -/
theorem tuple_eqB (l b : Addr) (xs ys : Array Value) (n m : Nat) (dd de : Option Addr) (sl sm : Array (Option Value)) (f : Nat → Bool) (I : Nat → Shared → Prop)
    (turn : ∀ i (h1 : i < xs.size) (h2 : i < ys.size) s, I i s → wpAny (model prog w) A.in1 (eqBool xs[i] ys[i]) (fun r s' => r = f i ∧ I (i + 1) s') (fun e s' => R (.error e) s') s)
    (good : ∀ s, (∀ i, i < xs.size → i < ys.size → f i = true) → I (min xs.size ys.size) s → R (.ok (.ret (.bool (decide (xs.size = ys.size))))) s)
    (bad : ∀ i s, i < xs.size → i < ys.size → f i = false → I (i + 1) s → R (.ok (.ret (.bool false))) s) {s : Shared}
    (hl : s.heap.get? l = some { cls := .type "tuple", dict := dd, data := .seq xs n, slots := sl }) (hb : s.heap.get? b = some { cls := .type "tuple", dict := de, data := .seq ys m, slots := sm }) (h : I 0 s) :
    wpAny (model prog w) A.in1 (Builtin.«tuple.__eq__» ⟨[.ref l, .ref b], []⟩) (FinOf prog w A R) (fun e s' => R (.error e) s') s := by
  have sub := AutoSeq1.sub_tuple_tuple
  have len : (xs.toList.zip ys.toList).length = min xs.size ys.size := by simp
  have start := h
  obtain ⟨hp, g, d, tk, os⟩ := s
  wp_walk using AutoSeq1.wpAny_loadPart' hl, AutoSeq1.wpAny_loadPart' hb, wpAny_forIn_list _ (fun rest st s' => st.1 = none ∧ ∃ i, rest = (xs.toList.zip ys.toList).drop i ∧ i ≤ min xs.size ys.size ∧ I i s' ∧ ∀ j, j < i → f j = true) _
  case turn =>
    rintro ⟨y, x⟩ rest st s' ⟨none0, i, left, le, inv, all⟩
    have lt : i < (xs.toList.zip ys.toList).length := by
      rcases Nat.lt_or_ge i (xs.toList.zip ys.toList).length with c | c
      · exact c
      · rw [List.drop_of_length_le c] at left; cases left
    have i1 : i < xs.size := by omega
    have i2 : i < ys.size := by omega
    rw [List.drop_eq_getElem_cons lt] at left
    injection left with both more
    have ey : y = xs[i] := by have := congrArg Prod.fst both; simpa using this
    have ex : x = ys[i] := by have := congrArg Prod.snd both; simpa using this
    subst ey ex
    refine wpAny_bind (wpAny_mono (turn i i1 i2 s' inv) (fun r s2 q2 => ?_) fun _ _ x => x)
    obtain ⟨er, q2⟩ := q2
    subst er
    cases c : f i with
    | true =>
      wp_walk
      exact ⟨rfl, i + 1, more, by omega, q2, fun j hj => by
        by_cases e : j = i
        · rw [e]; exact c
        · exact all j (by omega)⟩
    | false =>
      have no := bad i s2 i1 i2 c q2
      wp_walk
      exact no
  case fin =>
    rintro ⟨b1, b2⟩ s' ⟨none0, i, left, le, inv, all⟩
    simp only at none0
    subst none0
    have ge : (xs.toList.zip ys.toList).length ≤ i := by
      rcases Nat.lt_or_ge i (xs.toList.zip ys.toList).length with c | c
      · rw [List.drop_eq_getElem_cons c] at left; cases left
      · exact c
    have e : i = min xs.size ys.size := by omega
    subst e
    have yes := good s' (fun j a b => all j (by omega)) inv
    wp_walk
    have e2 : Builtin.Tuple.tupleCompareSizes CmpOp.Eq xs.size ys.size = .bool (decide (xs.size = ys.size)) := by
      simp only [Builtin.Tuple.tupleCompareSizes]
      congr 1
    rw [e2]
    exact yes
  case h =>
    exact ⟨rfl, 0, rfl, Nat.zero_le _, start, fun j hj => by omega⟩
end
section
variable {prog : Program} {w : World} {A : Around} {E : Value → Shared → Prop} {s : Shared}
theorem rc_tupB {l b : Addr} {xs ys : Array Value} {Q : Value → Shared → Prop} (room : A.units < cLine) (f : Nat → Bool) (I : Nat → Shared → Prop) (hl : s.heap.IsTuple l xs) (hb : s.heap.IsTuple b ys)
    (turn : ∀ i (h1 : i < xs.size) (h2 : i < ys.size) s, I i s → wpAny (model prog w) A.in1 (eqBool xs[i] ys[i]) (fun r s' => r = f i ∧ I (i + 1) s') E s)
    (good : ∀ s, (∀ i, i < xs.size → i < ys.size → f i = true) → I (min xs.size ys.size) s → Q (.bool (decide (xs.size = ys.size))) s)
    (bad : ∀ i s, i < xs.size → i < ys.size → f i = false → I (i + 1) s → Q (.bool false) s) (h : I 0 s) : wpAny (model prog w) A (richCompare .Eq (.ref l) (.ref b)) Q E s := by
  obtain ⟨⟨c1, d1, t1, l1⟩, at1, k1, n1, q1⟩ := id hl
  obtain ⟨⟨c2, d2, t2, l2⟩, at2, k2, n2, q2⟩ := id hb
  simp only at k1 q1 k2 q2
  subst k1 q1 k2 q2
  refine wpAny_richCompare_same_room (op := .Eq) ⟨_, at1, rfl⟩ ⟨_, at2, rfl⟩ F.slot_tuple_eq (call_here F.slot_tuple_eq ⟨_, at1, rfl⟩ F.entry_tuple_eq (F.args_tuple_eq_2 _ _) ?_) room
  exact tuple_eqB (R := wants (fun v s' => v ≠ .notImplemented ∧ Q v s') E) l b xs ys n1 n2 d1 d2 l1 l2 f I turn (fun s' a q => ⟨(fun x => nomatch x), good s' a q⟩) (fun i s' a c e q => ⟨(fun x => nomatch x), bad i s' a c e q⟩) at1 at2 h
end
/-- two values, and whether they are equal -/
abbrev EqvB := V → V → Bool → Hp → Prop
def MonB (D : EqvB) : Prop := ∀ x y r H H', Ext H H' → D x y r H → D x y r H'
def EqB (X : Cx) (n : Nat) (D : EqvB) : Prop := ∀ (A : Around) (pins : List (Addr × Obj)) (s : Shared) (σ : L2.St) (H : Hp) (x y : V) (r : Bool) (u v : Value), Sub X n A → Inv X pins σ H s → RelV x u → RelV y v → D x y r H →
  wpAny (model X.prog X.w) A (eqBool u v) (fun q s' => q = r ∧ ∃ H', Inv X pins σ H' s' ∧ Ext H H') X.xe s
def RcB (X : Cx) (n : Nat) (D : EqvB) : Prop := ∀ (A : Around) (pins : List (Addr × Obj)) (s : Shared) (σ : L2.St) (H : Hp) (x y : V) (r : Bool) (u v : Value), Sub X n A → Inv X pins σ H s → RelV x u → RelV y v → D x y r H →
  wpAny (model X.prog X.w) A (richCompare .Eq u v) (fun q s' => q = .bool r ∧ ∃ H', Inv X pins σ H' s' ∧ Ext H H') X.xe s
/-- item by item: the i-th two are equal just if f i -/
def PrsB (D : EqvB) (xs ys : List V) (r : Bool) (H : Hp) : Prop := ∃ f : Nat → Bool, (∀ i x y, xs[i]? = some x → ys[i]? = some y → D x y (f i) H) ∧ (r = true ↔ xs.length = ys.length ∧ ∀ i, i < xs.length → i < ys.length → f i = true)
def DTupB (K : PySem.W.Frag) (D : EqvB) : EqvB := fun x y r H => ∃ a b xs ys, x = .ref a ∧ y = .ref b ∧ SqT K H a xs ∧ SqT K H b ys ∧ PrsB D xs ys r H ∧ (a = b → r = true)
theorem monB_tup {K : PySem.W.Frag} {D : EqvB} (m : MonB D) : MonB (DTupB K D) := fun x y r H H' e d => by
  obtain ⟨a, b, xs, ys, hx, hy, h1, h2, ⟨f, hf, hr⟩, own⟩ := d
  exact ⟨a, b, xs, ys, hx, hy, h1.ext e, h2.ext e, ⟨f, fun i x y a b => m _ _ _ _ _ e (hf i x y a b), hr⟩, own⟩
section
variable {X : Cx} {n : Nat} {D : EqvB}
theorem rcB_tup (m : MonB D) (h : EqB X n D) : RcB X (n + 1) (DTupB X.K D) := by
  intro A pins s σ H x y r u v sb I rx ry d
  obtain ⟨a, b, xs, ys, rfl, rfl, ha, hb, ⟨f, hf, hr⟩, _⟩ := d
  cases rx
  cases ry
  obtain ⟨its, r1, e1, _⟩ := I.tuple ha
  obtain ⟨jts, r2, e2, _⟩ := I.tuple hb
  have l1 := r1.length
  have l2 := r2.length
  refine rc_tupB sb.room.units0 f (fun _ s' => LoopI X pins σ H s') e1 e2 (fun i h1 h2 s' q => ?_) (fun s' all q => ?_) (fun i s' h1 h2 no q => ?_) ⟨H, I, Ext.rfl'⟩
  · obtain ⟨H1, I1, x1⟩ := q
    have c1 : i < its.length := by simpa using h1
    have c2 : i < jts.length := by simpa using h2
    obtain ⟨u, hu, ru⟩ := r1.get (List.getElem?_eq_getElem (show i < xs.length by omega))
    obtain ⟨v, hv, rv⟩ := r2.get (List.getElem?_eq_getElem (show i < ys.length by omega))
    have g1 : its.toArray[i] = u := by
      rw [List.getElem?_eq_getElem c1] at hu
      simpa using Option.some.inj hu
    have g2 : jts.toArray[i] = v := by
      rw [List.getElem?_eq_getElem c2] at hv
      simpa using Option.some.inj hv
    rw [g1, g2]
    refine wpAny_mono (h A.in1 pins s' σ H1 _ _ (f i) u v sb.in1 I1 ru rv (m _ _ _ _ _ x1 (hf i _ _ (List.getElem?_eq_getElem (by omega)) (List.getElem?_eq_getElem (by omega))))) (fun q s2 z => ?_) fun _ _ x => x
    obtain ⟨eq, H2, I2, x2⟩ := z
    exact ⟨eq, H2, I2, x1.trans x2⟩
  · refine ⟨?_, q⟩
    rw [List.size_toArray, List.size_toArray, ← l1, ← l2]
    congr 1
    rw [Bool.eq_iff_iff, decide_eq_true_eq, hr]
    exact ⟨fun e => ⟨e, fun i a b => all i (by simpa [← l1] using a) (by simpa [← l2] using b)⟩, fun e => e.1⟩
  · refine ⟨?_, q⟩
    congr 1
    symm
    rw [← Bool.not_eq_true, hr]
    rintro ⟨_, all⟩
    rw [all i (by simpa [← l1] using h1) (by simpa [← l2] using h2)] at no
    cases no
/-- from the comparison of references to == inside a tuple -/
theorem RcB.eqB (h : RcB X n D) (hr : ∀ x y r H, D x y r H → ∃ a b, x = .ref a ∧ y = .ref b ∧ (a = b → r = true)) : EqB X n D := by
  intro A pins s σ H x y r u v sb I rx ry d
  obtain ⟨a, b, rfl, rfl, own⟩ := hr _ _ _ _ d
  cases rx
  cases ry
  by_cases ab : a = b
  · have e := own ab
    subst ab
    subst e
    exact SeqAt.EqAt.same (A := A) (s := s) (.ref a) X.prog X.w X.xe _ ⟨rfl, H, I, Ext.rfl'⟩
  · refine eqBool_refG ab (wpAny_mono (h A pins s σ H (.ref a) (.ref b) r _ _ sb I rfl rfl d) (fun q s' z => ?_) fun _ _ x => x)
    obtain ⟨e, z⟩ := z
    exact ⟨r, e, rfl, z⟩
/-- instances of the class at C with an own ==: S tells the answer -/
def DInsB (C : Addr) (S : Addr → Addr → Bool → Hp → Prop) : EqvB := fun x y r H => ∃ a b dx dy fs gs, x = .ref a ∧ y = .ref b ∧ H a = some (.ins C dx fs) ∧ H b = some (.ins C dy gs) ∧ S a b r H ∧ (a = b → r = true)
theorem monB_ins {C : Addr} {S : Addr → Addr → Bool → Hp → Prop} (m : ∀ a b r H H', Ext H H' → S a b r H → S a b r H') : MonB (DInsB C S) := fun x y r H H' e d => by
  obtain ⟨a, b, dx, dy, fs, gs, hx, hy, h1, h2, z, own⟩ := d
  exact ⟨a, b, dx, dy, fs, gs, hx, hy, e _ _ h1, e _ _ h2, m _ _ _ _ _ e z, own⟩
theorem rcB_ins {C g : Addr} {S : Addr → Addr → Bool → Hp → Prop} {sp : Sp} (O : OwnQ X.K C g) (F : FnR X.prog X.w X.K X.mg X.base CX0 n g sp) (hx : Passes CX0 X E0)
    (ask : ∀ a b r H, S a b r H → sp [.ref a, .ref b] H (fun v H' => v = .bl r ∧ Ext H H') E0) : RcB X n (DInsB C S) := by
  intro A pins s σ H x y r u v sb I rx ry d
  obtain ⟨a, b, dx, dy, fs, gs, rfl, rfl, ha, hb, z, _⟩ := d
  cases rx
  cases ry
  obtain ⟨ox, od, J⟩ := ins_at I ha
  obtain ⟨oy, oe, Jb⟩ := ins_at I hb
  obtain ⟨m, hF⟩ := I.fr
  refine PySem.W.cmp_K (op := .Eq) (tb := .ref C) sb.room.units0 hF I.ok.mod.kin J Jb.type notFirst_self O.eq O.fn ?_
  have e0 : Env0 X.prog X.w X.K X.mg X.base A X.stack s H := by
    have e := I.env0
    exact ⟨by rw [sb.fr]; exact e.frames, e.mod, e.bs, e.bsz, e.funs, e.frf, e.hok, e.bare⟩
  refine wpAny_mono (wpAny_call (SlX.run_at (us := [.ref a, .ref b]) (ws := [.ref a, .ref b]) F sb.room e0 hx I (.cons rfl (.cons rfl .nil)) (ask a b r H z))) (fun w s' q => ?_) fun _ _ x => x
  obtain ⟨z', H', I', rz, ez, ex⟩ := q
  subst ez
  cases (show w = Value.bool r from rz)
  exact ⟨rfl, H', I', ex⟩
/-- x == y as an expression -/
def rEqB (D : EqvB) : R2 := fun x y H Q => ∃ r, D x y r H ∧ ∀ H', Ext H H' → Q (.bl r) H'
theorem op_eqB (h : RcB X n D) (hr : Room n X.A) : OpR X (compareOp .Eq) (rEqB D) := by
  intro pins s σ H x y v u Q I rx ry hq
  obtain ⟨r, d, q⟩ := hq
  show wpAny (model X.prog X.w) X.A (richCompare .Eq v u) (EP X pins σ Q) X.xe s
  refine wpAny_mono (h X.A pins s σ H x y r v u ⟨hr, rfl⟩ I rx ry d) (fun w s' z => ?_) fun _ _ x => x
  obtain ⟨e, H', I', x⟩ := z
  subst e
  exact ⟨.bl r, H', I', rfl, q H' x⟩
end
end Rs
/-! o[i] by an own __getitem__ -/
namespace Rs
open PySem PySem.Spec PyProof.Rows L2
section
variable {X : Cx} {CX : CXT} {C g : Addr} {n : Nat} {sp : Sp} {E : XK} {a b : Expr} {ta tb : TE} {pos : Pos}
def rGetO (C : Addr) (sp : Sp) (E : XK) : R2 := fun x y H Q => ∃ a dx fs, x = .ref a ∧ H a = some (.ins C dx fs) ∧ sp [.ref a, y] H Q E
theorem pe_ixO (M : Meth X.K C "__getitem__" g) (hfn : PySem.W.fnIn X.K g = true) (F : FnR X.prog X.w X.K X.mg X.base CX n g sp) (hr : Room (n + 1) X.A) (hx : Passes CX X E) (ha : PE X a ta) (hb : PE X b tb)
    (hsl : ∀ x i, subscripted b true (.ref x) i = runValue (.builtin "lifetime.subscript" ⟨[.ref x, i], []⟩) := by intro x i; with_unfolding_all rfl) : PE X (.Subscript a b pos) (tOp (rGetO C sp E) ta tb) := by
  refine ⟨fun pins s σ H Q I h => ?_⟩
  refine Subscript_ (binT ha hb I h fun v u s2 x y H2 I2 rx ry q => ?_)
  obtain ⟨z, dx, fs, rfl, hz, q⟩ := q
  cases (show v = Value.ref z from rx)
  obtain ⟨ox, od, J⟩ := ins_at I2 hz
  obtain ⟨m, hF⟩ := I2.fr
  refine PySem.W.sub_K hF I2.ok.mod.kin J M.at_ hfn M.fn ?_ (hsl z u)
  have sb : Sub X n X.A.in1 := Sub.in1 ⟨hr, rfl⟩
  have e0 : Env0 X.prog X.w X.K X.mg X.base X.A.in1 X.stack s2 H2 := by
    have e := I2.env0
    exact ⟨by rw [sb.fr]; exact e.frames, e.mod, e.bs, e.bsz, e.funs, e.frf, e.hok, e.bare⟩
  exact wpAny_call (SlX.run_at (us := [.ref z, u]) (ws := [.ref z, y]) F sb.room e0 hx I2 (.cons rfl (.cons ry .nil)) q)
end
end Rs
/-! len(o) by an own __len__; o.m(e, ..) and o[i] within a try, what they let out is wished for at the caller's slots -/
namespace Rs
open PySem PySem.Spec PyProof.Rows L2
section
variable {X : Cx} {CX : CXT} {C g : Addr} {n : Nat} {sp : Sp} {E : XK}
def rLenO (C : Addr) (sp : Sp) (E : XK) : List V → Hp → VK → Prop := fun xs H Q => ∃ a dx fs, xs = [.ref a] ∧ H a = some (.ins C dx fs) ∧ sp [.ref a] H (fun z H' => ∃ i : Int, z = .int i ∧ 0 ≤ i ∧ i < 2 ^ 63 ∧ Q (.int i) H') E
theorem call_lenO (M : Meth X.K C "__len__" g) (F : FnR X.prog X.w X.K X.mg X.base CX n g sp) (hr : Room (n + 1) X.A) (hx : Passes CX X E) : CallR X (.builtin "len") (rLenO C sp E) := by
  intro pins s σ H xs us Q I r h
  obtain ⟨a, dx, fs, rfl, ha, q⟩ := h
  cases r with
  | cons r1 rr =>
    cases rr
    cases (show _ = Value.ref a from r1)
    obtain ⟨ox, od, J⟩ := ins_at I ha
    have hr1 : Room n X.A.in1 := Room.in1 hr
    obtain ⟨m, hF⟩ := I.fr
    refine PySem.W.len_K hF I.ok.mod.kin J M.at_ M.fn ?_
    refine wpAny_mono (wpAny_call (SlX.run_at (us := [.ref a]) (ws := [.ref a]) F hr1 I.env0.in1 hx I (.cons rfl .nil) q)) (fun w s' z => ?_) fun _ _ x => x
    obtain ⟨z', H', I', rz, i, ei, i0, i1, qz⟩ := z
    subst ei
    obtain ⟨t, rfl⟩ := rz
    exact ⟨⟨i0, i1⟩, .int i, H', I'.tok _, ⟨_, rfl⟩, qz⟩
end
section
variable {X : Cx} {CX : CXT} {C g : Addr} {n : Nat} {sp : Sp} {E : L2.St → XK} {a b : Expr} {ta tb : TE} {pos : Pos}
def tGetS (C : Addr) (sp : Sp) (E : L2.St → XK) (ta tb : TE) : TE := fun σ H Q => ta σ H fun x H1 => tb σ H1 fun y H2 => ∃ a dx fs, x = .ref a ∧ H2 a = some (.ins C dx fs) ∧ sp [.ref a, y] H2 Q (E σ)
theorem pe_ixOS (M : Meth X.K C "__getitem__" g) (hfn : PySem.W.fnIn X.K g = true) (F : FnR X.prog X.w X.K X.mg X.base CX n g sp) (hr : Room (n + 1) X.A) (hx : ∀ σ, PassesAt CX X σ (E σ)) (ha : PE X a ta) (hb : PE X b tb)
    (hsl : ∀ x i, subscripted b true (.ref x) i = runValue (.builtin "lifetime.subscript" ⟨[.ref x, i], []⟩) := by intro x i; with_unfolding_all rfl) : PE X (.Subscript a b pos) (tGetS C sp E ta tb) := by
  refine ⟨fun pins s σ H Q I h => ?_⟩
  refine Subscript_ (binT ha hb I h fun v u s2 x y H2 I2 rx ry q => ?_)
  obtain ⟨z, dx, fs, rfl, hz, q⟩ := q
  cases (show v = Value.ref z from rx)
  obtain ⟨ox, od, J⟩ := ins_at I2 hz
  obtain ⟨m, hF⟩ := I2.fr
  refine PySem.W.sub_K hF I2.ok.mod.kin J M.at_ hfn M.fn ?_ (hsl z u)
  have sb : Sub X n X.A.in1 := Sub.in1 ⟨hr, rfl⟩
  have e0 : Env0 X.prog X.w X.K X.mg X.base X.A.in1 X.stack s2 H2 := by
    have e := I2.env0
    exact ⟨by rw [sb.fr]; exact e.frames, e.mod, e.bs, e.bsz, e.funs, e.frf, e.hok, e.bare⟩
  refine wpAny_call (codeAny_mono (F X.A.in1 X.stack s2 H2 [.ref z, u] [.ref z, y] Q (E σ) sb.room e0 (.cons rfl (.cons ry .nil)) q) fun r s' hq => ?_)
  cases r with
  | error e => exact hx σ pins H2 s2 e s' I2 hq
  | ok fl =>
    cases fl with
    | ret u => exact I2.after hq
    | next => exact False.elim hq
    | brk => exact False.elim hq
    | cont => exact False.elim hq
end
section
variable {X : Cx} {CX : CXT} {k : Nat} {f C : Addr} {fd : FuncData} {ps : List Str} {sp : Sp} {E : L2.St → XK} {m : Str} {pos apos : Pos} {e o : Expr} {es : List Expr} {ta : TE} {t : TA}
def tMethS (C : Addr) (m : Str) (sp : Sp) (E : L2.St → XK) (ta : TE) (t : TA) : TE := fun σ H Q => ta σ H fun x H1 => ∃ a dx fs, x = .ref a ∧ H1 a = some (.ins C dx fs) ∧ fs.lookup m = none ∧ t σ H1 fun vs H2 => sp (x :: vs) H2 Q (E σ)
theorem pe_methT {pl : Sem Bool} (he : PE X o ta) (c : Cls X.K C) (hm : Meth X.K C m f) (F : FnOk X.prog X.w X.K X.mg X.base CX k f fd ps sp) (hr : Room k X.A) (hb : Binds X.K fd ps []) (hx : ∀ σ, PassesAt CX X σ (E σ)) (ha : PA X (e :: es) t)
    (hst : starEach (e :: es) X.env = (false, eval e X.env) :: starEach es X.env := by rfl) (hpl : (backTo pos (starEach es X.env)).any (·.1) = false := by rfl)
    (ht : eval (.Call (.Attribute o m apos) (e :: es) [] pos) X.env = (do
      let ov ← eval o X.env
      standAt apos.atName
      let (f, first) ← holding [ov] (getMethod ov m pl)
      callWith pos f first (backTo pos (starEach (e :: es) X.env)) (backToKw pos (keywordEach [] X.env))) := by rfl) : PE X (.Call (.Attribute o m apos) (e :: es) [] pos) (tMethS C m sp E ta t) := by
  refine ⟨fun pins s σ H Q I h => ?_⟩
  refine PySem.W.methodCall_KW (pl := pl) (thn (he.run pins s σ H _ I h) fun u s1 res => ?_) ht
  obtain ⟨x, H1, I1, rx, a, dx, fs, ex, ea, l, q⟩ := res
  subst ex
  cases (show u = Value.ref a from rx)
  refine getmeth_ok I1 ea c hm l ?_
  refine PySem.W.callWith_K (first := [.ref a]) (h₀ := X.base) I.ok.mod.kin hm.kp (thn (ha.run pos pins s1 σ H1 _ I1 q) fun us s2 res => ?_) hst hpl
  obtain ⟨vs, H2, I2, r, q2⟩ := res
  exact ⟨I2.kIn, run_fnS (us := .ref a :: us) (vs := .ref a :: vs) F hr hb (hx σ) I2 (.cons rfl r) q2⟩
end
end Rs
/-! cls(e, ..) where cls is a local name that holds a class of the text -/
namespace Rs
open PySem PySem.Spec PyProof.Rows L2
section
variable {X : Cx} {CX : CXT} {k i : Nat} {f C : Addr} {fd : FuncData} {ps : List Str} {sp : Sp} {E : XK} {ds : List Value} {dvs : List V} {x : Str} {e : Expr} {es : List Expr} {t : TA} {p pos : Pos}
def tMakeV (i : Nat) (C : Addr) (sp : Sp) (dvs : List V) (E : XK) (t : TA) : TE := fun σ H Q => σ[i]? = some (some (.ref C)) ∧ tMake C sp dvs E t σ H Q
theorem pe_makeV (M : Mk X.K C f) (F : FnOk X.prog X.w X.K X.mg X.base CX k f fd ps sp) (hr : Room (k + 1) X.A) (hN : X.N[i]? = some x) (hv : Vis X.env.scope x) (hb : Binds X.K fd ps ds) (hd : Vals dvs ds) (hx : Passes CX X E) (ha : PA X (e :: es) t)
    (hdb : (x == ("__debug__" : Str)) = false := by decide) (hcd : (x == ("__classdict__" : Str)) = false := by decide) (he : starEach (e :: es) X.env = (false, eval e X.env) :: starEach es X.env := by rfl) (hpl : (backTo pos (starEach es X.env)).any (·.1) = false := by rfl) :
    PE X (.Call (.Name x p) (e :: es) [] pos) (tMakeV i C sp dvs E t) := by
  refine ⟨fun pins s σ H Q I h => ?_⟩
  have name := (pe_var (pos := p) (i := i) hN hv hdb hcd).run pins s σ H (fun v H1 => v = .ref C ∧ H1 = H) I ⟨.ref C, h.1, rfl, rfl⟩
  refine wpAny_Call_Name_kw (thn name fun u s1 res => ?_)
  obtain ⟨v, H1, I1, r1, ev, eH⟩ := res
  subst ev eH
  cases r1
  refine PySem.W.callWith_K (h₀ := X.base) I.ok.mod.kin M.kp (thn (ha.run pos pins s1 σ _ _ I1 h.2) fun us s2 got => ?_) he hpl
  obtain ⟨vs, H2, I2, r, q⟩ := got
  exact ⟨I2.kIn, run_make M F hr hb hd hx I2 r q⟩
theorem pe_makeV0 (M : Mk X.K C f) (F : FnOk X.prog X.w X.K X.mg X.base CX k f fd ps sp) (hr : Room (k + 1) X.A) (hN : X.N[i]? = some x) (hv : Vis X.env.scope x) (hb : Binds X.K fd ps ds) (hd : Vals dvs ds) (hx : Passes CX X E)
    (hdb : (x == ("__debug__" : Str)) = false := by decide) (hcd : (x == ("__classdict__" : Str)) = false := by decide) : PE X (.Call (.Name x p) [] [] pos) (tMakeV i C sp dvs E tNil) := by
  refine ⟨fun pins s σ H Q I h => ?_⟩
  have name := (pe_var (pos := p) (i := i) hN hv hdb hcd).run pins s σ H (fun v H1 => v = .ref C ∧ H1 = H) I ⟨.ref C, h.1, rfl, rfl⟩
  refine wpAny_Call_Name_kw (thn name fun u s1 res => ?_)
  obtain ⟨v, H1, I1, r1, ev, eH⟩ := res
  subst ev eH
  cases r1
  exact PySem.W.callWith_K0 I1.kIn M.kp (run_make (us := []) M F hr hb hd hx I1 .nil h.2)
end
end Rs
/-! a, b, .. = l, l a list (the kit's pg_tup speaks of tuples) -/
namespace Rs
open PySem PySem.Spec PyProof.Rows L2
section
variable {prog : Program} {w : World} {A : Around} {E : Value → Shared → Prop}
/-- n things drawn from a list's iterator -/
theorem draws_list {it l : Addr} {items : Array Value} (ne : l ≠ it) : ∀ (n i : Nat) (s : Shared) (Q : List Value → Shared → Prop), s.heap.IsListIter it l i → s.heap.IsList l items → i + n ≤ items.size →
    (∀ h2, h2.IsListIter it l (i + n) → Heap.SameBut it s.heap h2 → Q ((items.toList.drop i).take n) { s with heap := h2 }) → wpAny (model prog w) A (draw (.ref it) n) Q E s
  | 0, i, s, Q, at1, _, _, go => by
    show wpAny _ _ (pure []) Q E s
    refine wpAny_pure ?_
    simpa using go s.heap at1 (Heap.SameBut.refl ..)
  | n + 1, i, s, Q, at1, il, few, go => by
    have lt : i < items.size := by omega
    have one : items[i]? = some items[i] := by simp [lt]
    show wpAny _ _ (pyNext (.ref it) >>= _) Q E s
    refine wpAny_bind (wpAny_pyNext_list_item at1 il one fun h1 at2 s1 => wpAny_bind (wpAny_holding ?_))
    have il2 : h1.IsList l items := by
      obtain ⟨o, ho, hc, k, hd⟩ := id il
      exact ⟨o, (s1.2 l ne).trans ho, hc, k, hd⟩
    refine draws_list ne n (i + 1) _ _ at2 il2 (by omega) fun h2 at3 s2 => wpAny_pure ?_
    have got := go h2 (by rw [← Nat.add_assoc, Nat.add_right_comm]; exact at3) (s1.trans s2)
    have cut : items.toList.drop i = items[i] :: items.toList.drop (i + 1) := by simp [List.drop_eq_getElem_cons, lt]
    rw [cut, List.take_succ_cons] at got
    exact got
theorem unpack_list {l : Addr} {items : Array Value} {ts : List (Bool × (Value → Sem Unit))} {s : Shared} {Q : Unit → Shared → Prop} (calm : A.handled = none) (il : s.heap.IsList l items) (same : ts.length = items.size) (plain : ts.findIdx? (·.1) = none)
    (go : ∀ h2, Heap.ExtBut s.heap.objs.size s.heap h2 → wpAny (model prog w) A (assignInOrder (ts.map (·.2)) items.toList) Q E { s with heap := h2 }) : wpAny (model prog w) A (unpack (.ref l) ts) Q E s := by
  have ne : l ≠ s.heap.objs.size := by
    obtain ⟨o, ho, _⟩ := id il
    exact Nat.ne_of_lt (Heap.lt_size ho)
  unfold unpack
  rw [same, plain]
  refine wpAny_bind (wpAny_holding ?_)
  unfold unpackItems
  refine wpAny_bind ?_
  unfold notIterableAtAll
  refine wpAny_bind (wpAny_specialOf il.typeIs PySem.F.slot_list_iter.lookup (wpAny_pure ?_))
  simp only [Bool.false_eq_true, if_false]
  refine wpAny_bind (wpAny_holding (wpAny_pyIter_list il ?_))
  have il1 : (s.heap.push { cls := .type "list_iterator", data := .fields #[.ref l, .int 0 0] }).IsList l items := by
    obtain ⟨o, ho, hc, k, hd⟩ := id il
    exact ⟨o, Heap.get?_push_of_some _ ho, hc, k, hd⟩
  have at0 : (s.heap.push { cls := .type "list_iterator", data := .fields #[.ref l, .int 0 0] }).IsListIter s.heap.objs.size l 0 := ⟨_, Heap.get?_push_size _ rfl, rfl, rfl⟩
  refine wpAny_bind (wpAny_holding (draws_list ne items.size 0 _ _ at0 il1 (by omega) fun h1 at1 s1 => ?_))
  have all : List.take items.size (List.drop 0 items.toList) = items.toList := by
    rw [List.drop_zero]
    exact List.take_of_length_le (by simp)
  rw [all, if_neg (by simp)]
  have il2 : h1.IsList l items := by
    obtain ⟨o, ho, hc, k, hd⟩ := id il1
    exact ⟨o, (s1.2 l ne).trans ho, hc, k, hd⟩
  refine wpAny_bind (wpAny_holding (wpAny_pyNext_list_end calm at1 il2 (by simp) fun h2 x2 => ?_))
  simp only [Option.isSome_none, Bool.false_eq_true, if_false]
  exact wpAny_pure (go h2 fun b o hb z => x2 b o hb (s1.extBut b o hb (Heap.get?_push_of_some _ z)))
end
section
variable {X : Cx} {pos : Pos}
def gTupL (K : PySem.W.Frag) (n : Nat) (t : TGs) : TG := fun v σ H Q => ∃ a xs, v = .ref a ∧ SqL K H a xs ∧ xs.length = n ∧ t xs σ H Q
theorem pg_tupL {es : List Expr} {k : Nat} {t : TGs} {n : Nat} (calm : X.calm = true) (h : PGs X es t) (hn : (assignEach es X.env).length = n := by rfl) (hst : (assignEach es X.env).findIdx? (·.1) = none := by rfl) : PG X (.Tuple es k pos) (gTupL X.K n t) := by
  refine ⟨fun pins s σ H v u Q I r hw => ?_⟩
  obtain ⟨a, xs, e1, hq, hl, hw⟩ := hw
  subst e1
  cases r
  obtain ⟨its, rv, pl, hz⟩ := I.list hq
  rw [assign_Tuple]
  refine wpAny_bind (wpAny_standAt (unpack_list (I.ok.hd calm) pl.isList (by rw [hn, ← hl, rv.length]; simp) hst fun h2 x2 => ?_))
  have J : Inv X pins σ H { s with heap := h2 } := I.kept (t' := s.toks) fun b o z => x2 b o (Nat.ne_of_lt (Heap.lt_size z)) z
  exact h.run pins _ σ H xs _ Q J (by simpa using rv) hw
end
end Rs
/-! An own class over IndexError whose __init__ is walked as a def and sets one field: OexC of HandS.ExcInit speaks of ValueError. -/
namespace Rs
open PySem PySem.Spec PyProof.Rows L2
/-- IndexError's line of classes -/
abbrev ieTail : List Value := [.type "IndexError", .type "LookupError", .type "Exception", .type "BaseException", .type "object"]
section
open PySem.Builtin PySem.Builtin.ObjectAttr PySem.W
theorem ie_passes (self : Value) (C : Addr) : refuseLoop self "__setattr__" (.ref C :: ieTail) = pure () := by
  rw [refuseLoop_ref]
  kernel_rfl
variable {prog : Program} {w : World} {A : Around} {R : Result → Shared → Prop} {hp : Heap} {g : Array GenState} {dr : Drawn} {tn : Nat} {os : OsState}
/-- self.name = v where self has no dict as yet -/
theorem osa_ie {K : Frag} {name : Str} {tk : Tok} {v : Value} {x C : Addr} {fv : Array Value} {cd : ClassData} (X : K.In hp) (there : hp.get? x = some { cls := .ref C, data := .fields fv }) (is : clsIn K C = some cd) (line : cd.mro = .ref C :: ieTail) (has : cd.hasDict = true)
    (free : findIn K (.ref C) name = some none)
    (go : ∀ h2 t2 dx, (∀ b o, b ≠ x → hp.get? b = some o → h2.get? b = some o) → hp.objs.size ≤ dx → dx ≠ x → h2.get? x = some { cls := .ref C, dict := some dx, data := .fields fv } → h2.Ns1 dx (fun y => if y = name then some v else none) →
      R (.ok (.ret .none)) ⟨h2, g, dr, t2, os⟩) : codeAny (model prog w) A (.call (.builtin "object.__setattr__") ⟨[.ref x, .str name tk, v], []⟩) R ⟨hp, g, dr, tn, os⟩ := by
  have J : InstAt hp x { cls := .ref C, data := .fields fv } C none := ⟨there, rfl, rfl, trivial⟩
  have xs : x ≠ hp.objs.size := Nat.ne_of_lt (Heap.lt_size there)
  have full : cd.mro.isEmpty = false := by rw [line]; rfl
  have obj : cd.mro.contains (.type "object") = true := by rw [line, List.contains_cons]; exact (Bool.or_eq_true _ _).mpr (.inr (by decide +kernel))
  have inst : Looks (model prog w) hp (isInstance (.ref x) (.type "object")) true :=
    J.type.andThen (looks_mroIn X (by unfold mroIn; rw [is, Option.bind_some, if_neg (by rw [full]; decide), obj]))
  refine codeAny_call_builtin PySem.F.store_object.slot.plain PySem.F.store_object.entry
    (@check_slot (model prog w) _ _ ⟨hp, g, dr, tn, os⟩ "object.__setattr__" "object" "__setattr__" (.ref x) [.str name tk, v] [] _ PySem.F.store_object.kind PySem.F.store_object.split inst (PySem.F.store_object.args (.ref x) (.str name tk) v) ?_)
  have mro : Looks (model prog w) hp (mroOf (.ref C)) cd.mro := (looks_clsIn X is).andThen .now
  have nobody : Looks (model prog w) hp (storeTaker? none) none := .now
  have data : Looks (model prog w) hp (classData C) cd := looks_clsIn X is
  rw [osa_eq, refuse_eq]
  refine wpAny_bind (wpAny_bind (J.type.at (wpAny_bind (mro.at ?_))))
  rw [line, ie_passes]
  refine wpAny_pure (wpAny_bind (J.type.at (wpAny_bind ((looks_findIn X free).at (wpAny_bind (nobody.at ?_))))))
  show wpAny _ _ (storeInOwnDict (.ref x) (.ref C) (.str name tk) name v false) _ _ _
  clear full obj mro line
  obtain ⟨nm, bs, mro, ns, qn, hd, sn, sb, ab, col, del⟩ := cd
  dsimp only at has
  subst has
  unfold storeInOwnDict
  unfold ownDictForStores
  repeat (first | with_reducible refine PySem.HandSPX.store_in_new ?_ ?_ | (with_reducible refine wpAny_loadPart_at there ?_) | (with_reducible refine data.at ?_) | wp_step)
  · exact ⟨_, #[], _, (Heap.get?_update_ne _ _ _ _ xs.symm).trans (Heap.get?_push_at rfl rfl), rfl, (fun e he => by simp at he), fun _ => rfl⟩
  · intro h2 t2 ns1 sb
    have there2 : (hp.push { cls := .type "dict", data := .dict #[] }).get? x = some { cls := .ref C, data := .fields fv } := Heap.get?_push_of_some _ there
    refine go h2 t2 hp.objs.size (fun b o nb ho => ?_) (Nat.le_refl _) xs.symm ((sb.2 x xs).trans (Heap.get?_update_self _ there2 rfl)) ns1
    exact (sb.2 b (Nat.ne_of_lt (Heap.lt_size ho))).trans ((Heap.get?_update_ne _ _ _ _ nb).trans (Heap.get?_push_of_some _ ho))
end
/-- what the written part says of such a class -/
structure OexI (K : PySem.W.Frag) (C : Addr) : Prop where
  cls : ∃ nm q N bs sn sub ab col dd k0 k1 k2 k3 k5, K.lookup C = some (excClassObj nm q C N bs ieTail true sn sub ab col dd k0 k1 k2 k3 k5 "IndexError.__new__")
  sa : PySem.W.findIn K (.ref C) "__setattr__" = some (some (.builtin "object.__setattr__"))
  ex : PySem.W.subIn K (.ref C) (.type "BaseException") = some true
  ty : PySem.W.typeIn K (.ref C) = some (.type "type")
  kp : PySem.W.keepIn K (.ref C) = true
section
variable {X : Cx} {pins : List (Addr × Obj)} {σ : L2.St} {H : Hp} {s : Shared} {a C : Addr} {f : Str} {y : V} {u : Value} {E : Value → Shared → Prop} {A : Around} {Q : Unit → Shared → Prop}
theorem ost_ie (T : OexI X.K C) (I : Inv X pins σ H s) (e : H a = some (exo a C none)) (free : PySem.W.findIn X.K (.ref C) f = some none) (ry : RelV y u)
    (go : ∀ dx s2, H dx = none → dx ≠ a → Inv X pins σ (upd (upd H dx (exd dx [(f, y)])) a (exo a C (some dx))) s2 → Q () s2) : wpAny (model X.prog X.w) A (setAttr (.ref a) f u) Q E s := by
  obtain ⟨nm, q, N, bs, sn, sub, ab, col, dd, k0, k1, k2, k3, k5, hC⟩ := T.cls
  have known : PySem.W.clsIn X.K C = some { name := nm, bases := bs, mro := .ref C :: ieTail, ns := N, qualname := q, hasDict := true, slotNames := sn, subclasses := sub, abstract := ab, collection := col, hasDel := false } := by
    unfold PySem.W.clsIn
    rw [hC]
  obtain ⟨t1, ho⟩ := exo_at I.hok e
  obtain ⟨hp, g, d, t, os⟩ := s
  refine PySem.W.set_plain I.kIn (ox := { cls := .ref C, dict := none, data := .fields #[.ref t1, .none, .none, .none, .bool false, .none] }) (od := none) ⟨ho, rfl, rfl, trivial⟩ T.sa
    (osa_ie I.kIn ho known rfl rfl free fun h2 tk2 dx kept new ne hx ns => ?_)
  have none2 : H dx = none := I.hok.fresh new
  have old : ∀ {b : Addr} {o : Obj}, hp.get? b = some o → b ≠ dx := fun {b o} z => Nat.ne_of_lt (Nat.lt_of_lt_of_le (Heap.lt_size z) new)
  have nota : ∀ {b : Addr}, H b = none → b ≠ a := fun {b} n z => by rw [z, e] at n; cases n
  have far : ∀ {b : Addr} {o : HO}, H b = some o → (∀ r, exo a C r ≠ o) → upd (upd H dx (exd dx [(f, y)])) a (exo a C (some dx)) b = some o := fun {b o} z n => by
    rw [upd_ne (fun w => by rw [w, e] at z; exact n none (Option.some.inj z)), upd_ne (ne_of_none z none2)]
    exact z
  have U : Un X.fs [] H (upd (upd H dx (exd dx [(f, y)])) a (exo a C (some dx))) hp h2 :=
    { keep := fun b o z n _ _ => kept b o (nota n) z
      slot := fun b o z n _ _ => ⟨o.slots, kept b o (nota n) z⟩
      free := fun b o z n _ => by rw [upd_ne (nota n), upd_ne (old z)]; exact n
      there := fun b o z _ => by
        by_cases hb : b = a
        · subst hb
          exact ⟨_, hx⟩
        · exact ⟨o, kept b o hb z⟩
      tups := fun b xs z => far z fun r => exo_tup
      frzs := fun b o v z => by
        rw [upd_ne (at_ne e z exo_frz), upd_ne (ne_of_none z none2)]
        exact z
      tbls := fun b ps z => ⟨#[], by rw [upd_ne (at_ne e z exo_tbl), upd_ne (ne_of_none z none2), z]; simp⟩ }
  refine go dx _ none2 ne (I.un (t' := tk2) U fun b o z => ?_)
  by_cases hb : b = a
  · subst hb
    rw [upd_same] at z
    cases z
    exact exo_ok hx
  rw [upd_ne hb] at z
  by_cases hd : b = dx
  · subst hd
    rw [upd_same] at z
    cases z
    exact exd_ok ns (relO_put (fs := []) ry fun _ => True.intro)
  rw [upd_ne hd] at z
  have way : ∀ {c : Addr} {o2 : HO}, H c = some o2 → c ≠ a → upd (upd H dx (exd dx [(f, y)])) a (exo a C (some dx)) c = some o2 := fun {c o2} hc nc => by
    rw [upd_ne nc, upd_ne (ne_of_none hc none2)]
    exact hc
  refine (I.hok b o z).stay (fun c v hc z2 => kept c v ?_ z2) (fun c hc => way hc (at_ne e hc exo_own)) fun c xs hc => way hc (at_ne e hc exo_tup)
  rcases hc with hc | hc
  · exact hc ▸ hb
  · exact at_ne e hc exo_own
end
section
variable {X : Cx} {o e : Expr} {es : List Expr} {to te : TE} {ta : TA} {f : Str} {p p' pos : Pos}
/-- self.f = e, the first field -/
def tOsi (K : PySem.W.Frag) (f : Str) (to te : TE) : TS := fun D σ H => te σ H fun y H1 => to σ H1 fun x H2 => ∃ a C : Addr, x = .ref a ∧ OexI K C ∧ PySem.W.findIn K (.ref C) f = some none ∧
  H2 a = some (exo a C none) ∧ ∀ dx, H2 dx = none → dx ≠ a → D.nx σ (upd (upd H2 dx (exd dx [(f, y)])) a (exo a C (some dx)))
theorem ps_osi (ho : PE X o to) (he : PE X e te) (hs : swapsWith e (some (.Attribute o f p')) pos.line X.env = pure false := by rfl) : PS X (.Assign [.Attribute o f p'] e pos) (tOsi X.K f to te) := by
  refine ⟨fun pins s σ H D I h => plainObj_wpAny_Assign_Attribute (thn (he.run pins s σ H _ I h) fun v s1 r1 => ?_) hs⟩
  obtain ⟨y, H1, I1, ry, q1⟩ := r1
  refine thn (ho.run pins s1 σ H1 _ I1 q1) fun u s2 r2 => ?_
  obtain ⟨x, H2, I2, rx, a, C, ex, T, free, ea, q⟩ := r2
  subst ex
  cases (show u = Value.ref a from rx)
  exact ost_ie T I2 ea free ry fun dx s3 n ne J => ⟨σ, _, J, q dx n ne⟩
/-- C(e, ..), C's own __init__ keeping sp -/
theorem pmk_oei {CX : CXT} {x : Str} {C fI : Addr} {k : Nat} {fd : FuncData} {ps : List Str} {sp : Sp} (T : OexI X.K C) (iC : PySem.W.findIn X.K (.ref C) "__init__" = some (some (.ref fI))) (tI : PySem.W.typeIn X.K (.ref fI) = some (.type "function"))
    (F : FnOk X.prog X.w X.K X.mg X.base CX k fI fd ps sp) (hr : Room (k + 1) X.A) (hb : Binds X.K fd ps []) (hx : Passes CX X (fun _ _ _ => False)) (hg : Gl X x) (hm : X.mg x = some (.ref C)) (ha : PA X (e :: es) ta)
    (hdb : (x == ("__debug__" : Str)) = false := by decide) (he : starEach (e :: es) X.env = (false, eval e X.env) :: starEach es X.env := by rfl) (hpl : (backTo pos (starEach es X.env)).any (·.1) = false := by rfl) : PMk X (.Call (.Name x p) (e :: es) [] pos) (tMkO C sp [] ta) := by
  intro pins s σ H Q I h
  obtain ⟨nm, q, N, bs, sn, sub, ab, col, dd, k0, k1, k2, k3, k5, hC⟩ := T.cls
  refine wpAny_Call_Name_kw (ld_glob I hg hm (PySem.W.callWith_K (h₀ := X.base) I.ok.mod.kin T.kp (thn (ha.run pos pins s σ H _ I h) fun us s1 res => ?_) he hpl) hdb)
  obtain ⟨vs, H1, I1, r1, hz, q1⟩ := res
  refine ⟨I1.kIn, ?_⟩
  show wpAny _ _ (call (.ref C) us) _ _ _
  obtain ⟨hp, g, dr, tk, os⟩ := s1
  have up : hp.objs.size ≤ hp.objs.size + 1 := Nat.le_succ _
  have want := q1 (hp.objs.size + 1) (I1.hok.fresh up)
  have kept : ∀ b o, hp.get? b = some o → ((hp.push (PySem.W.kdv_tup us)).push (PySem.HandSPX.excO C hp.objs.size)).get? b = some o := fun b o z => Heap.get?_push_of_some _ (Heap.get?_push_of_some _ z)
  have at1 : ((hp.push (PySem.W.kdv_tup us)).push (PySem.HandSPX.excO C hp.objs.size)).get? (hp.objs.size + 1) = some (PySem.HandSPX.excO C hp.objs.size) := by heap_get
  have J : Inv X pins σ (upd H1 (hp.objs.size + 1) (exo (hp.objs.size + 1) C none)) ⟨(hp.push (PySem.W.kdv_tup us)).push (PySem.HandSPX.excO C hp.objs.size), g, dr, tk, os⟩ := Inv.laid (t' := tk) I1 kept up (exo_ok at1)
  have rel : Vals (V.ref (hp.objs.size + 1) :: (vs ++ [])) (Value.ref (hp.objs.size + 1) :: us) := .cons rfl (by rw [List.append_nil]; exact r1)
  have n1 : (Value.ref (hp.objs.size + 1) :: us).length = ps.length := by rw [← rel.length]; exact F.len _ _ _ _ want
  have bd := hb _ (Value.ref (hp.objs.size + 1) :: us) J.kIn (by rw [List.append_nil]; exact n1)
  rw [List.append_nil] at bd
  have few : us.length ≤ sizeLine := by have e1 := r1.length; have e2 := sizeLine_eq; omega
  refine wpAny_call (PySem.HandSPX.call_own PySem.F.excBase_IndexError (fun _ => rfl) (I1.kIn _ _ hC) (PySem.W.looks_findIn I1.kIn iC) (fun self => PySem.W.bind_fn I1.kIn self tI) few
    (codeAny_mono (F.run _ X.stack _ _ ⟨Value.ref (hp.objs.size + 1) :: us, []⟩ _ _ _ (fun _ _ _ => False) (hr.make C us []) (J.env0.make C us []) bd rel want) fun r s2 got => ?_))
  cases r with
  | error er => exact hx pins σ _ _ er s2 J got
  | ok fl =>
    cases fl with
    | next => exact got.elim
    | brk => exact got.elim
    | cont => exact got.elim
    | ret u =>
      obtain ⟨v, H2, os2, bare2, un2, ok2, rv, ev, d, fs, ea, ed, hd1, q2⟩ := got
      subst ev
      obtain ⟨h2, g2, d2, t2, os3⟩ := s2
      exact ⟨rv, mk_end (raises_own T.ex T.ty) I1 up kept un2 ok2 os2 bare2 ea ed hd1 q2⟩
end
end Rs
/-! own exceptions as values: made, asked by isinstance, their field read -/
namespace Rs
open PySem PySem.Spec PyProof.Rows L2
section
variable {X : Cx} {CX : CXT} {k : Nat} {C fI : Addr} {fd : FuncData} {ps : List Str} {sp : Sp} {x : Str} {p pos : Pos} {e : Expr} {es : List Expr} {ta : TA}
def tExo (C : Addr) (sp : Sp) (t : TA) : TE := fun σ H Q => t σ H fun vs H1 => vs.length ≤ 1000 ∧ ∀ a, H1 a = none → sp (.ref a :: vs) (upd H1 a (exo a C none)) (fun v H2 => v = .non ∧ Q (.ref a) H2) (fun _ _ _ => False)
theorem pe_oex (T : OexC X.K C) (iC : PySem.W.findIn X.K (.ref C) "__init__" = some (some (.ref fI))) (tI : PySem.W.typeIn X.K (.ref fI) = some (.type "function"))
    (F : FnOk X.prog X.w X.K X.mg X.base CX k fI fd ps sp) (hr : Room (k + 1) X.A) (hb : Binds X.K fd ps []) (hx : Passes CX X (fun _ _ _ => False)) (hg : Gl X x) (hm : X.mg x = some (.ref C)) (ha : PA X (e :: es) ta)
    (hdb : (x == ("__debug__" : Str)) = false := by decide) (he : starEach (e :: es) X.env = (false, eval e X.env) :: starEach es X.env := by rfl) (hpl : (backTo pos (starEach es X.env)).any (·.1) = false := by rfl) :
    PE X (.Call (.Name x p) (e :: es) [] pos) (tExo C sp ta) := by
  refine ⟨fun pins s σ H Q I h => ?_⟩
  obtain ⟨nm, q, N, bs, bm, sn, sub, ab, col, dd, k0, k1, k2, k3, k5, hC, hbm⟩ := T.cls
  refine wpAny_Call_Name_kw (ld_glob I hg hm ?_ hdb)
  refine PySem.W.callWith_K (h₀ := X.base) I.ok.mod.kin T.kC (thn (ha.run pos pins s σ H _ I h) fun us s1 res => ?_) he hpl
  obtain ⟨vs, H1, I1, r1, hz, q1⟩ := res
  refine ⟨I1.kIn, ?_⟩
  show wpAny _ _ (call (.ref C) us) _ _ _
  obtain ⟨hp, g, dr, tk, os⟩ := s1
  have up : hp.objs.size ≤ hp.objs.size + 1 := Nat.le_succ _
  have want := q1 (hp.objs.size + 1) (I1.hok.fresh up)
  have kept : ∀ b o, hp.get? b = some o → ((hp.push (PySem.W.kdv_tup us)).push (PySem.HandSPX.excO C hp.objs.size)).get? b = some o := fun b o z => Heap.get?_push_of_some _ (Heap.get?_push_of_some _ z)
  have at1 : ((hp.push (PySem.W.kdv_tup us)).push (PySem.HandSPX.excO C hp.objs.size)).get? (hp.objs.size + 1) = some (PySem.HandSPX.excO C hp.objs.size) := by heap_get
  have J : Inv X pins σ (upd H1 (hp.objs.size + 1) (exo (hp.objs.size + 1) C none)) ⟨(hp.push (PySem.W.kdv_tup us)).push (PySem.HandSPX.excO C hp.objs.size), g, dr, tk, os⟩ := Inv.laid (t' := tk) I1 kept up (exo_ok at1)
  have rel : Vals (V.ref (hp.objs.size + 1) :: vs) (Value.ref (hp.objs.size + 1) :: us) := .cons rfl r1
  have n1 : (Value.ref (hp.objs.size + 1) :: us).length = ps.length := by rw [← rel.length]; exact F.len _ _ _ _ want
  have bd := hb _ (Value.ref (hp.objs.size + 1) :: us) J.kIn (by rw [List.append_nil]; exact n1)
  rw [List.append_nil] at bd
  have few : us.length ≤ sizeLine := by have e1 := r1.length; have e2 := sizeLine_eq; omega
  refine wpAny_call (PySem.HandSPX.call_own PySem.F.excBase_ValueError (fun Y => PySem.HandSPX.refsVE_contains Y bm hbm) (I1.kIn _ _ hC) (PySem.W.looks_findIn I1.kIn iC) (fun self => PySem.W.bind_fn I1.kIn self tI) few
    (codeAny_mono (F.run _ X.stack _ _ ⟨Value.ref (hp.objs.size + 1) :: us, []⟩ _ _ _ (fun _ _ _ => False) (hr.make C us []) (J.env0.make C us []) bd rel want) fun r s2 got => ?_))
  cases r with
  | error er => exact hx pins σ _ _ er s2 J got
  | ok fl =>
    cases fl with
    | next => exact got.elim
    | brk => exact got.elim
    | cont => exact got.elim
    | ret u =>
      obtain ⟨v, H2, J2, rv, ev, q2⟩ := J.after got
      subst ev
      exact ⟨rv, .ref (hp.objs.size + 1), H2, J2, rfl, q2⟩
theorem pe_oei (T : OexI X.K C) (iC : PySem.W.findIn X.K (.ref C) "__init__" = some (some (.ref fI))) (tI : PySem.W.typeIn X.K (.ref fI) = some (.type "function"))
    (F : FnOk X.prog X.w X.K X.mg X.base CX k fI fd ps sp) (hr : Room (k + 1) X.A) (hb : Binds X.K fd ps []) (hx : Passes CX X (fun _ _ _ => False)) (hg : Gl X x) (hm : X.mg x = some (.ref C)) (ha : PA X (e :: es) ta)
    (hdb : (x == ("__debug__" : Str)) = false := by decide) (he : starEach (e :: es) X.env = (false, eval e X.env) :: starEach es X.env := by rfl) (hpl : (backTo pos (starEach es X.env)).any (·.1) = false := by rfl) :
    PE X (.Call (.Name x p) (e :: es) [] pos) (tExo C sp ta) := by
  refine ⟨fun pins s σ H Q I h => ?_⟩
  obtain ⟨nm, q, N, bs, sn, sub, ab, col, dd, k0, k1, k2, k3, k5, hC⟩ := T.cls
  refine wpAny_Call_Name_kw (ld_glob I hg hm ?_ hdb)
  refine PySem.W.callWith_K (h₀ := X.base) I.ok.mod.kin T.kp (thn (ha.run pos pins s σ H _ I h) fun us s1 res => ?_) he hpl
  obtain ⟨vs, H1, I1, r1, hz, q1⟩ := res
  refine ⟨I1.kIn, ?_⟩
  show wpAny _ _ (call (.ref C) us) _ _ _
  obtain ⟨hp, g, dr, tk, os⟩ := s1
  have up : hp.objs.size ≤ hp.objs.size + 1 := Nat.le_succ _
  have want := q1 (hp.objs.size + 1) (I1.hok.fresh up)
  have kept : ∀ b o, hp.get? b = some o → ((hp.push (PySem.W.kdv_tup us)).push (PySem.HandSPX.excO C hp.objs.size)).get? b = some o := fun b o z => Heap.get?_push_of_some _ (Heap.get?_push_of_some _ z)
  have at1 : ((hp.push (PySem.W.kdv_tup us)).push (PySem.HandSPX.excO C hp.objs.size)).get? (hp.objs.size + 1) = some (PySem.HandSPX.excO C hp.objs.size) := by heap_get
  have J : Inv X pins σ (upd H1 (hp.objs.size + 1) (exo (hp.objs.size + 1) C none)) ⟨(hp.push (PySem.W.kdv_tup us)).push (PySem.HandSPX.excO C hp.objs.size), g, dr, tk, os⟩ := Inv.laid (t' := tk) I1 kept up (exo_ok at1)
  have rel : Vals (V.ref (hp.objs.size + 1) :: vs) (Value.ref (hp.objs.size + 1) :: us) := .cons rfl r1
  have n1 : (Value.ref (hp.objs.size + 1) :: us).length = ps.length := by rw [← rel.length]; exact F.len _ _ _ _ want
  have bd := hb _ (Value.ref (hp.objs.size + 1) :: us) J.kIn (by rw [List.append_nil]; exact n1)
  rw [List.append_nil] at bd
  have few : us.length ≤ sizeLine := by have e1 := r1.length; have e2 := sizeLine_eq; omega
  refine wpAny_call (PySem.HandSPX.call_own PySem.F.excBase_IndexError (fun _ => rfl) (I1.kIn _ _ hC) (PySem.W.looks_findIn I1.kIn iC) (fun self => PySem.W.bind_fn I1.kIn self tI) few
    (codeAny_mono (F.run _ X.stack _ _ ⟨Value.ref (hp.objs.size + 1) :: us, []⟩ _ _ _ (fun _ _ _ => False) (hr.make C us []) (J.env0.make C us []) bd rel want) fun r s2 got => ?_))
  cases r with
  | error er => exact hx pins σ _ _ er s2 J got
  | ok fl =>
    cases fl with
    | next => exact got.elim
    | brk => exact got.elim
    | cont => exact got.elim
    | ret u =>
      obtain ⟨v, H2, J2, rv, ev, q2⟩ := J.after got
      subst ev
      exact ⟨rv, .ref (hp.objs.size + 1), H2, J2, rfl, q2⟩
/-- C() of a class without an own __init__ -/
theorem pe_exc0 {bmB : List Value} {B newId initId : String} (F : ExcBaseFacts B newId initId bmB) (q : PySem.W.excIn X.K C bmB newId = true) (gC : X.mg x = some (.ref C)) (kC : PySem.W.keepIn X.K (.ref C) = true) (hg : Gl X x)
    (hdb : (x == ("__debug__" : Str)) = false := by decide) : PE X (.Call (.Name x p) [] [] pos) (fun σ H Q => ∀ a, H a = none → Q (.ref a) (upd H a (ExO (.ref C) a))) := by
  refine ⟨fun pins s σ H Q I h => ?_⟩
  refine wpAny_Call_Name_kw (ld_glob I hg gC ?_ hdb)
  have I1 := I
  refine PySem.W.callWith_K0 I.kIn kC ?_
  obtain ⟨bm, N, nm, qn, bs, hdct, sn, sub, ab, col, dd, k0, k1, k2, k3, k5, mN, hC, hN, hni, T⟩ := exc_obj I1.kIn q
  refine wpAny_call_exc_subT F T hC hN hni (fun h' a hm => ?_) (by show 0 ≤ sizeLine; omega)
  have hn : H a = none := I1.hok.gone hm.new
  obtain ⟨t, ht, _, _⟩ := hm.there
  exact ⟨.ref a, upd H a (ExO (.ref C) a), I1.laidN hm.keeps hm.new hn (exO_ok ht ⟨rfl, rfl⟩ rfl rfl rfl (show 4 < 6 by decide)), rfl, h a hn⟩
end
/-- at a: an exception of the class at C; its field, where it has one -/
def ErrA (H : Hp) (a C : Addr) (o : Option (Str × V)) : Prop := (∃ dx f y, o = some (f, y) ∧ H a = some (exo a C (some dx)) ∧ H dx = some (exd dx [(f, y)])) ∨ (o = none ∧ H a = some (ExO (.ref C) a))
section
variable {X : Cx} {pins : List (Addr × Obj)} {σ : L2.St} {H : Hp} {s : Shared} {a C : Addr} {o : Option (Str × V)}
theorem err_at (I : Inv X pins σ H s) (h : ErrA H a C o) : ∃ oe od, PySem.W.InstAt s.heap a oe C od ∧ ∀ f y, o = some (f, y) → ∃ (dx : Addr) (od1 : Obj) (u : Value), od = some od1 ∧ PySem.W.lookIn f od1 = some (some u) ∧ RelV y u := by
  rcases h with ⟨dx, f, y, rfl, ha, hd⟩ | ⟨rfl, ha⟩
  · obtain ⟨t1, ho⟩ := exo_at I.hok ha
    obtain ⟨mA, hns, rel⟩ := exd_at I.hok hd
    obtain ⟨od, ho2, hl⟩ := lookIn_ns hns
    refine ⟨_, some od, ⟨ho, rfl, by unfold PySem.W.notCls; rfl, ho2⟩, fun f' y' e => ?_⟩
    cases e
    obtain ⟨u, hu, ru⟩ := RelO.some_of (v := y) (o := mA f) (by
      have z := rel f
      rw [lookup_put, if_pos rfl] at z
      exact z)
    exact ⟨dx, od, u, rfl, by rw [hl, hu], ru⟩
  · obtain ⟨⟨oe, vs, he, hz, hd, _, _, _⟩, _⟩ := (show ObjOk X.prog X.w H s.heap a (ExO (.ref C) a) from I.hok a _ ha)
    exact ⟨oe, none, ⟨he, hz.1, by unfold PySem.W.notCls; rw [hd] <;> rfl, by rw [hz.2]; trivial⟩, fun f' y' e => nomatch e⟩
end
section
variable {X : Cx}
def rIsE (K : PySem.W.Frag) : List V → Hp → VK → Prop := fun xs H Q => ∃ (a C : Addr) (o : Option (Str × V)) (c : V) (cv : Value) (b : Bool), xs = [.ref a, c] ∧ ErrA H a C o ∧ ExX K C ∧ ClsV c cv ∧ PySem.W.kitOne K (.ref C) cv = some b ∧ Q (.bl b) H
theorem call_isE : CallR X (.builtin "isinstance") (rIsE X.K) := by
  intro pins s σ H xs us Q I r h
  obtain ⟨a, C, o, c, cv, b, rfl, he, T, kc, e, q⟩ := h
  obtain ⟨u1, u2, rfl, r1, r2⟩ := vals2 r
  obtain rfl := kc.eq r2
  cases (show u1 = Value.ref a from r1)
  obtain ⟨oe, od, J, _⟩ := err_at I he
  exact PySem.W.kia_one (PySem.W.kitx_exc T.cl T.ga T.gg T.sb T.ca T.sp T.tk T.mo) I.kIn J e (fun z => nomatch z) fun tk => ⟨.bl b, H, I.tok tk, rfl, q⟩
def tXfE (K : PySem.W.Frag) (f : Str) (te : TE) : TE := fun σ H Q => te σ H fun x H1 => ∃ (a C : Addr) (v : V), x = .ref a ∧ ErrA H1 a C (some (f, v)) ∧ XfC K C ∧ PySem.W.findIn K (.ref C) f = some none ∧ Q v H1
theorem pe_xfE {e : Expr} {te : TE} {pos : Pos} {n : Str} (he : PE X e te) (hb : attributeBase e n X.env (eval e X.env) = eval e X.env := by rfl) : PE X (.Attribute e n pos) (tXfE X.K n te) := by
  refine ⟨fun pins s σ H Q I h => ?_⟩
  refine attr_of hb (thn (he.run pins s σ H _ I h) fun u s1 hh => ?_)
  obtain ⟨x, H1, I1, rx, a, C, v, ex, ea, T, hno, q⟩ := hh
  subst ex
  cases (show u = Value.ref a from rx)
  obtain ⟨oe, od, J, more⟩ := err_at I1 ea
  obtain ⟨dx, od1, u, rfl, hl, ru⟩ := more n v rfl
  exact HandSPX.exc_get I1.kIn J T.ga T.gg T.exC (PySem.W.findObj_own T.hdC hno rfl hl) (handed_of ru) ⟨v, H1, I1.tok _, ru, q⟩
end
end Rs
/-! o(e, ..) by an own __call__ -/
namespace Rs
open PySem PySem.Spec PyProof.Rows L2
theorem callWith_ins {M : Model} {A : Around} {E : Value → Shared → Prop} {s : Shared} {pos : Pos} {x C : Addr} {env : Env} {e : Expr} {es : List Expr} {Q : Value → Shared → Prop}
    (run : wpAny M A (spliced (backTo pos (starEach (e :: es) env))) (fun vs s1 => (∃ ox od, PySem.W.InstAt s1.heap x ox C od ∧ ox.data = .plain) ∧ wpAny M A (call (.ref x) ([] ++ vs)) Q E s1) E s)
    (he : starEach (e :: es) env = (false, eval e env) :: starEach es env) (hp : (backTo pos (starEach es env)).any (·.1) = false) : wpAny M A (callWith pos (.ref x) [] (backTo pos (starEach (e :: es) env)) []) Q E s := by
  rw [he] at run ⊢
  have flat : ((backTo pos ((false, eval e env) :: starEach es env)).any (·.1) || ([] : List (Option Str × Sem Value)).any (·.1.isNone)) = false := by
    show ((false || (backTo pos (starEach es env)).any (·.1)) || false) = false
    rw [hp]
    rfl
  unfold callWith
  have args : wpAny M A (evalArgs (.ref x) true (backTo pos ((false, eval e env) :: starEach es env)) []) (fun ar s1 => (∃ ox od, PySem.W.InstAt s1.heap x ox C od ∧ ox.data = .plain) ∧ wpAny M A (call (.ref x) ([] ++ ar.pos) ar.kw) Q E s1) E s := Calls.evalArgs_plain run
  refine wpAny_bind (wpAny_holding (wpAny_mono args (fun ar s1 both => ?_) fun _ _ z => z))
  obtain ⟨⟨ox, od, J, pl⟩, go⟩ := both
  refine wpAny_bind (wpAny_standAt ?_)
  have keep := PySem.W.kco_keeper (M := M) J pl
  simp only [flat]
  refine wpAny_bind (keep.here ?_)
  exact wpAny_bind (wpAny_mono (wpAny_operateT go) (fun r s2 fin => wpAny_bind (wpAny_holding (wpAny_point (wpAny_pure fin)))) fun _ _ z => z)
section
variable {X : Cx} {CX : CXT} {C g : Addr} {n : Nat} {sp : Sp} {E : XK}
def tCallO (C : Addr) (sp : Sp) (E : XK) (tf : TE) (t : TA) : TE := fun σ H Q => tf σ H fun x H1 => ∃ a dx fs, x = .ref a ∧ H1 a = some (.ins C dx fs) ∧ t σ H1 fun vs H2 => (∃ dx fs, H2 a = some (.ins C dx fs)) ∧ sp (.ref a :: vs) H2 Q E
theorem pe_callO {f e : Expr} {es : List Expr} {tf : TE} {t : TA} {pos : Pos} (hf : PE X f tf) (M : Meth X.K C "__call__" g) (hfn : PySem.W.fnIn X.K g = true) (F : FnR X.prog X.w X.K X.mg X.base CX n g sp) (hr : Room n X.A) (hx : Passes CX X E) (ha : PA X (e :: es) t)
    (hc : eval (.Call f (e :: es) [] pos) X.env = (do callWith pos (← eval f X.env) [] (backTo pos (starEach (e :: es) X.env)) (backToKw pos (keywordEach [] X.env))) := by rfl)
    (he : starEach (e :: es) X.env = (false, eval e X.env) :: starEach es X.env := by rfl) (hp : (backTo pos (starEach es X.env)).any (·.1) = false := by rfl) : PE X (.Call f (e :: es) [] pos) (tCallO C sp E tf t) := by
  refine ⟨fun pins s σ H Q I h => Call_ (thn (hf.run pins s σ H _ I h) fun v s1 hv => ?_) hc⟩
  obtain ⟨x, H1, I1, r1, a, dx, fs, rfl, hi, h⟩ := hv
  cases (show v = Value.ref a from r1)
  refine callWith_ins (C := C) (thn (ha.run pos pins s1 σ H1 _ I1 h) fun us s2 hu => ?_) he hp
  obtain ⟨vs, H2, I2, rr, ⟨dx2, fs2, hi2⟩, q⟩ := hu
  obtain ⟨od2, J2⟩ := ins_obj I2 hi2
  exact ⟨⟨_, _, J2, rfl⟩, wpAny_call (PySem.W.kco_code I2.kIn J2 rfl M.at_ M.fn hfn (run_fnR (us := .ref a :: us) (vs := .ref a :: vs) F hr hx I2 (.cons rfl rr) q))⟩
end
end Rs
/-! o.f(e, ..), where o's field f holds an object with an own __call__ -/
namespace Rs
open PySem PySem.Spec PyProof.Rows L2
section
variable {X : Cx} {CX : CXT} {C g : Addr} {n : Nat} {sp : Sp} {E : XK}
theorem getmeth_fld {pins : _} {σ : _} {H : Hp} {s : Shared} {A : Around} {a C1 dx : Addr} {fs : List (Str × V)} {f : Str} {v : V} {pl : Sem Bool} {Q : Value × List Value → Shared → Prop} {E : Value → Shared → Prop} (I : Inv X pins σ H s) (e : H a = some (.ins C1 dx fs)) (c : Cls X.K C1) (n : NoAttr X.K C1 f) (l : fs.lookup f = some v)
    (h : ∀ u s', Inv X pins σ H s' → RelV v u → Q (u, []) s') : wpAny (model X.prog X.w) A (getMethod (.ref a) f pl) Q E s := by
  obtain ⟨mA, O, r, _, _, _⟩ := ins_get I.hok e
  obtain ⟨od, J, hl⟩ := O.look
  refine PySem.W.method_usual (r := none) I.kIn J (PySem.W.plainGet_of (c.get f)).1 (PySem.W.plainGet_of (c.get f)).2 n rfl ?_
  exact getattr_ok I e c n l fun u s' I' ru => h u s' I' ru
def tCallF (K : PySem.W.Frag) (f : Str) (C : Addr) (sp : Sp) (E : XK) (ta : TE) (t : TA) : TE := fun σ H Q => ta σ H fun x H1 => ∃ a C1 dx fs v, x = .ref a ∧ H1 a = some (.ins C1 dx fs) ∧ Cls K C1 ∧ NoAttr K C1 f ∧ fs.lookup f = some v ∧
  ∃ b dy gs, v = .ref b ∧ H1 b = some (.ins C dy gs) ∧ t σ H1 fun vs H2 => (∃ dy gs, H2 b = some (.ins C dy gs)) ∧ sp (.ref b :: vs) H2 Q E
theorem pe_callF {K : PySem.W.Frag} (eK : X.K = K) {o e : Expr} {es : List Expr} {f : Str} {ta : TE} {t : TA} {pos apos : Pos} {pl : Sem Bool} (ho : PE X o ta) (M : Meth K C "__call__" g) (hfn : PySem.W.fnIn K g = true) (F : FnR X.prog X.w K X.mg X.base CX n g sp) (hr : Room n X.A) (hx : Passes CX X E) (ha : PA X (e :: es) t)
    (hst : starEach (e :: es) X.env = (false, eval e X.env) :: starEach es X.env := by rfl) (hpl : (backTo pos (starEach es X.env)).any (·.1) = false := by rfl)
    (ht : eval (.Call (.Attribute o f apos) (e :: es) [] pos) X.env = (do
      let ov ← eval o X.env
      standAt apos.atName
      let (f, first) ← holding [ov] (getMethod ov f pl)
      callWith pos f first (backTo pos (starEach (e :: es) X.env)) (backToKw pos (keywordEach [] X.env))) := by rfl) : PE X (.Call (.Attribute o f apos) (e :: es) [] pos) (tCallF K f C sp E ta t) := by
  subst eK
  refine ⟨fun pins s σ H Q I h => ?_⟩
  refine PySem.W.methodCall_KW (pl := pl) (thn (ho.run pins s σ H _ I h) fun u s1 res => ?_) ht
  obtain ⟨x, H1, I1, rx, a, C1, dx, fs, v, ex, ea, c, nA, l, b, dy, gs, ev, eb, q⟩ := res
  subst ex ev
  cases (show u = Value.ref a from rx)
  refine getmeth_fld I1 ea c nA l fun u2 s2 I2 r2 => ?_
  cases (show u2 = Value.ref b from r2)
  refine callWith_ins (C := C) (thn (ha.run pos pins s2 σ H1 _ I2 q) fun us s3 hu => ?_) hst hpl
  obtain ⟨vs, H2, I3, rr, ⟨dx2, fs2, hi2⟩, q⟩ := hu
  obtain ⟨od2, J2⟩ := ins_obj I3 hi2
  exact ⟨⟨_, _, J2, rfl⟩, wpAny_call (PySem.W.kco_code I3.kIn J2 rfl M.at_ M.fn hfn (run_fnR (us := .ref b :: us) (vs := .ref b :: vs) F hr hx I3 (.cons rfl rr) q))⟩
end
end Rs
/-! Lambdas with parameters, without captured names, handed to a def as values; the end of a law row with tables of code objects. -/
namespace Rs
open PySem PySem.Spec PyProof.Rows L2 LamX NdefX
abbrev lamFd (F : NF) (e : Expr) (pm ctv : Value) : FuncData := PySem.W.kla_fn F.name F.qual F.params e F.scope F.cl pm (.ref F.c) ctv
/-- the object at f is the lambda with the body e -/
def LamO (f : Addr) (F : NF) (e : Expr) : HO := .ext fun h => ∃ (od : Option Addr) (sl : Array (Option Value)) (pm ctv : Value), h.get? f = some (⟨.type "function", od, .func (lamFd F e pm ctv), sl⟩ : Obj)
theorem lamO_at {P : Program} {w : World} {H : Hp} {h : Heap} {f : Addr} {F : NF} {e : Expr} (hok : HOk P w H h) (z : H f = some (LamO f F e)) : ∃ (od : Option Addr) (sl : Array (Option Value)) (pm ctv : Value), h.get? f = some (⟨.type "function", od, .func (lamFd F e pm ctv), sl⟩ : Obj) := by
  obtain ⟨q, _, _⟩ := hok f _ z
  exact q
theorem clo_nil {cells : List (Str × Addr)} : ∀ {names : List (Str × NameKind)} {acc : List (Str × Addr)}, (∀ y ∈ names, y.2 ≠ .free) → cloFrom cells names acc = acc
  | [], _, _ => rfl
  | (n, k) :: r, acc, h => by
    have hk : (k == NameKind.free) = false := by
      have z := h (n, k) List.mem_cons_self
      cases k <;> first | rfl | exact absurd rfl z
    unfold cloFrom
    rw [hk]
    exact clo_nil fun y hy => h y (List.mem_cons_of_mem _ hy)
section
variable {X : Cx} {pins : List (Addr × Obj)} {σ : L2.St} {H : Hp} {s : Shared}
theorem inv_lam {F : NF} {e : Expr} {t' : Nat} {pm ctv : Value} (I : Inv X pins σ H s) :
    Inv X pins σ (upd H s.heap.objs.size (LamO s.heap.objs.size F e)) { s with heap := s.heap.push ({ cls := .type "function", data := .func (lamFd F e pm ctv) } : Obj), toks := t' } := by
  refine I.laid (a := s.heap.objs.size) (fun b u e => Heap.get?_push_of_some _ e) (Nat.le_refl _) ?_
  have z : (s.heap.push ({ cls := .type "function", data := .func (lamFd F e pm ctv) } : Obj)).get? s.heap.objs.size = some ({ cls := .type "function", data := .func (lamFd F e pm ctv) } : Obj) := Heap.get?_push_size _ rfl
  exact ⟨⟨_, _, pm, ctv, z⟩, ⟨_, z⟩, fun h1 h2 ⟨od, sl, p, t, z⟩ st => ⟨od, sl, p, t, st _ z⟩⟩
theorem lam_mk {T : List NTab} {nm : Nat → Nat → Str} {c P : Addr} {params : Arguments} {body : Expr} {scope : Scope} {pos : Pos} {E : Value → Shared → Prop} {Q : Value → Shared → Prop} (I : Inv X pins σ H s) (TB : TabB X.base X.mg c P) (hcode : X.env.code = .ref c)
    (here : (P, nm) ∈ T) (nmEq : nm pos.line pos.col = X.env.qual ++ "<lambda>") (one : ∀ p ∈ T, p.1 = P → p.2 = nm) (tabs0 : TabsN T H) (hdef : defaultsOf params X.env = ([], [])) (hfree : ∀ y ∈ scope.names, y.2 ≠ .free)
    (h : ∀ (f c' : Addr) (H1 : Hp) (sn : Shared), Inv X pins σ H1 sn → ExtN H H1 → (∀ b, H1 b = Option.none → H b = Option.none) → TabsN T H1 → H f = none → H1 f = some (LamO f ⟨"<lambda>", X.env.qual ++ "<lambda>", params, [], scope, [], c'⟩ body) → H1 c' = some (CodeO c' (X.env.qual ++ "<lambda>")) → Q (.ref f) sn) :
    wpAny (model X.prog X.w) X.A (eval (.Lambda params body scope pos) X.env) Q E s := by
  obtain ⟨held, atTab, good, told⟩ := (show TabN H P nm from tabs0 _ here)
  refine PySem.W.kla_eval hdef ?_
  have bltn : s.heap.BuiltinsAt X.mg P := TB.bm.keeps I.bk
  have tabIs : s.heap.get? P = some { cls := .none, data := .fields held } := I.hok P _ atTab
  have noClo : closureFor scope X.env = pure [] := by
    have z := closure_ok (scope := scope) (env := X.env) fun y hy e => absurd e (hfree y hy)
    rw [clo_nil hfree] at z
    exact z
  cases look : codeAmong pos held.toList with
  | none =>
    refine PySem.W.kla_makeFunction (mg := X.mg) (c := c) (P := P) (ps := held) noClo I.ok.glob (I.mod.glob.keeps I.bk) hcode (TB.code.keeps I.bk) tabIs good look TB.gP bltn fun c' ctv hh tk kept0 above below rec0 tabNow => ?_
    obtain ⟨cc, cob, flds, tk0, same2, isCode, data0, name0⟩ := rec0
    cases same2
    have newC : H c' = none := I.hok.fresh above
    have J1 := inv_table (t' := tk) (more := #[rawInt pos.line, rawInt pos.col, .ref c']) (h' := hh) I atTab (fun b o same e => kept0 b o same e) tabNow above ⟨cob, flds, tk0, isCode, data0, name0⟩
    have keepN : ExtN H (upd (upd H P (.tbl (held ++ #[rawInt pos.line, rawInt pos.col, .ref c']))) c' (CodeO c' (X.env.qual ++ "<lambda>"))) := fun b o e n => by
      rw [upd_ne (ne_of_none e newC), upd_ne (fun z => n held (Option.some.inj (e.symm.trans (by rw [z]; exact atTab))))]
      exact e
    have eqL : (held ++ #[rawInt pos.line, rawInt pos.col, .ref c']).toList = held.toList ++ [rawInt pos.line, rawInt pos.col, .ref c'] := by simp
    have tabs1 : TabsN T (upd (upd H P (.tbl (held ++ #[rawInt pos.line, rawInt pos.col, .ref c']))) c' (CodeO c' (X.env.qual ++ "<lambda>"))) := fun p hp => by
      by_cases same : p.1 = P
      · rw [one p hp same, same]
        refine ⟨_, by rw [upd_ne (ne_of_none atTab newC), upd_same], by rw [eqL]; exact PySem.TriplesOk_snoc _ _ _ _ good, fun p' cv hit => ?_⟩
        rw [eqL] at hit
        rcases among_app2 _ good hit with z | ⟨z, lineEq, colEq⟩
        · obtain ⟨cod, q1, same2⟩ := told p' cv z
          exact ⟨cod, q1, keepN _ _ same2 codeO_ne⟩
        · refine ⟨c', z, ?_⟩
          rw [← lineEq, ← colEq, nmEq]
          exact upd_same
      · obtain ⟨held', w1, w2, w3⟩ := tabs0 p hp
        refine ⟨held', by rw [upd_ne (ne_of_none w1 newC), upd_ne same]; exact w1, w2, fun p' cv hit => ?_⟩
        obtain ⟨cod, q1, same2⟩ := w3 p' cv hit
        exact ⟨cod, q1, keepN _ _ same2 codeO_ne⟩
    have newF := J1.hok.fresh (Nat.le_refl _)
    have J2 := inv_lam (F := ⟨"<lambda>", X.env.qual ++ "<lambda>", params, [], scope, [], c'⟩) (e := body) (t' := tk) (pm := (X.mg "__name__").getD .none) (ctv := ctv) J1
    refine h hh.objs.size c' _ _ J2 (fun b o e n => ?_) (fun b e => upd_none (upd_none (upd_none e))) (tabs1.ext fun b o e => ?_) (I.hok.fresh (Nat.le_trans above (Nat.le_of_lt below))) upd_same ?_
    · have q1 := keepN b o e n
      exact (upd_ne (ne_of_none q1 newF)).trans q1
    · exact (upd_ne (ne_of_none e newF)).trans e
    · exact (upd_ne (Nat.ne_of_lt below)).trans upd_same
  | some cv =>
    obtain ⟨c', e, known⟩ := told pos cv look
    subst e
    rw [nmEq] at known
    refine PySem.W.kla_makeFunctionHit (mg := X.mg) (c := c) (P := P) (ps := held) noClo I.ok.glob (I.mod.glob.keeps I.bk) hcode (TB.code.keeps I.bk) tabIs good look bltn fun ctv hh tk kept0 size0 => ?_
    have J1 : Inv X pins σ H { s with heap := hh, toks := tk } := I.kept kept0
    have newF : H hh.objs.size = none := J1.hok.fresh (Nat.le_refl _)
    have J2 := inv_lam (F := ⟨"<lambda>", X.env.qual ++ "<lambda>", params, [], scope, [], c'⟩) (e := body) (t' := tk) (pm := (X.mg "__name__").getD .none) (ctv := ctv) J1
    refine h hh.objs.size c' _ _ J2 (fun b o e n => ?_) (fun b e => upd_none e) (tabs0.ext fun b o e => ?_) newF upd_same ?_
    · exact (upd_ne (ne_of_none e newF)).trans e
    · exact (upd_ne (ne_of_none e newF)).trans e
    · exact (upd_ne (ne_of_none known newF)).trans known
end
/-- the reading of lambda ..: body -/
def tLm (T : List NTab) (q : Str) (params : Arguments) (scope : Scope) (body : Expr) : TE := fun σ H Q => TabsN T H ∧ ∀ (f c' : Addr) (H1 : Hp), ExtN H H1 → (∀ b, H1 b = Option.none → H b = Option.none) → TabsN T H1 → H f = none → H1 f = some (LamO f ⟨"<lambda>", q, params, [], scope, [], c'⟩ body) → H1 c' = some (CodeO c' q) → Q (.ref f) H1
theorem pe_lam {X : Cx} {T : List NTab} {nm : Nat → Nat → Str} {c P : Addr} {params : Arguments} {body : Expr} {scope : Scope} {pos : Pos} {q : Str} (TB : TabB X.base X.mg c P) (hcode : X.env.code = .ref c)
    (hm : (P, nm) ∈ T) (hn : nm pos.line pos.col = q) (hu : ∀ p ∈ T, p.1 = P → p.2 = nm) (hq : X.env.qual ++ "<lambda>" = q) (hdef : defaultsOf params X.env = ([], [])) (hfree : ∀ y ∈ scope.names, y.2 ≠ .free) :
    PE X (.Lambda params body scope pos) (tLm T q params scope body) := by
  subst hq
  refine ⟨fun pins s σ H Q I h => ?_⟩
  obtain ⟨hT, h⟩ := h
  exact lam_mk I TB hcode hm hn hu hT hdef hfree fun f c' H1 s' I1 eN nn T1 f0 f1 c1 => ⟨.ref f, H1, I1, rfl, h f c' H1 eN nn T1 f0 f1 c1⟩
/-! ### what a lambda promises -/
structure LOk (P : Program) (w : World) (K : PySem.W.Frag) (mg : Str → Option Value) (base : Heap) (CX : CXT) (k : Nat) (f : Addr) (F : NF) (e : Expr) (ps : List Str) (sp : Sp) : Prop where
  len : ∀ vs H Q E, sp vs H Q E → vs.length = ps.length
  run : ∀ (A : Around) (outer : List Env) (s : Shared) (H : Hp) (us : List Value) (vs : List V) (Q : VK) (E : XK), Room k A → Env0 P w K mg base A outer s H → H f = some (LamO f F e) → H F.c = some (CodeO F.c F.qual) →
    Vals vs us → sp vs H Q E → codeAny (model P w) A (.call (.ref f) ⟨us, []⟩) (CR CX outer P w H s Q E) s
section
variable {CX : CXT} {P : Program} {w : World} {K : PySem.W.Frag} {mg : Str → Option Value} {base : Heap} {N ps : List Str} {F : NF} {f : Addr} {e : Expr} {k : Nat} {sp : Sp}
theorem lok_of (S : NScope N ps [] F.scope) (hcl : F.cl = []) (hb : ∀ (pm ctv : Value) (us : List Value), us.length = ps.length → bindArgs (lamFd F e pm ctv) ⟨us, []⟩ = pure (ps.zip us)) (len : ∀ vs H Q E, sp vs H Q E → vs.length = ps.length)
    (hbody : ∀ (A : Around) (outer : List Env) (s : Shared) (H : Hp) (vs : List V) (Q : VK) (E : XK), Room k (A.deeper (envF F f s.heap.objs.size)) → sp vs H Q E →
      ∃ t, PE (ncx CX P w K mg base N F f A outer s H E) e t ∧ t (startF N vs []) H Q) :
    LOk P w K mg base CX (k + 1) f F e ps sp := by
  refine ⟨len, fun A outer s H us vs Q E room env atF atC rel pre => ?_⟩
  have many := len _ _ _ _ pre
  have free : s.heap.NoLimit := env.mod.nolimit.keeps fun b o e => (env.bs b o e).1
  obtain ⟨od, sl, pm, ctv, obj⟩ := lamO_at env.hok atF
  have C : CellsAt F.cl [] [] s.heap H := by
    rw [hcl]
    exact ⟨rfl, fun y c z => (nomatch z), fun x y c z => (nomatch z), fun i y z => (nomatch z)⟩
  refine PySem.W.kla_callFunE room.depth obj rfl S.co S.gen rfl (codeO_at env.hok atC) ?_
  rw [hb pm ctv us (by rw [← rel.length]; exact many)]
  refine wpAny_pure (wpAny_newFunctionEnv S.nocell (fun ⟨n, _⟩ mem => S.par n (List.of_mem_zip mem).1) (fun h₁ names but => ⟨free.fresh _ but, ?_⟩) S.kind)
  show codeAny _ _ (.expr e (envF F f s.heap.objs.size)) _ _
  have kept : ∀ b o, s.heap.get? b = some o → h₁.get? b = some o := fun b o e => but.extBut b o (Nat.ne_of_lt (Heap.lt_size e)) (Heap.get?_push_of_some _ e)
  obtain ⟨t, der, rd⟩ := hbody A outer s H vs Q E (room.deeper _) pre
  have I : Inv (ncx CX P w K mg base N F f A outer s H E) [] (startF N vs []) H { s with heap := h₁, toks := s.toks + (ps.zip us).length } := inv_startN S room.hd env many rel C names kept
  refine PySem.W.kla_codeExpr (wpAny_mono (der.run [] _ (startF N vs []) H Q I rd) (fun v s' rd => ?_) fun e s' rd => rd)
  obtain ⟨w', H', J, rw, q⟩ := rd
  exact (⟨w', H', J.os, J.bare, J.base, J.hok, rw, q⟩ : CE outer P w H s Q v s')
end
/-- its promise, whatever its parameters are called -/
def LamK (P : Program) (w : World) (K : PySem.W.Frag) (mg : Str → Option Value) (base : Heap) (k : Nat) (f : Addr) (F : NF) (e : Expr) (sp : Sp) : Prop := ∃ ps, LOk P w K mg base CX0 k f F e ps sp
/-- f(..), f a name that holds a lambda -/
def tCallL (L : Addr → NF → Expr → Sp → Prop) (i : Nat) (E : XK) (t : TA) : TE := fun σ H Q => ∃ (f : Addr) (F : NF) (b : Expr) (sp : Sp), σ[i]? = some (some (.ref f)) ∧ H f = some (LamO f F b) ∧ L f F b sp ∧
  t σ H fun vs H1 => H1 f = some (LamO f F b) ∧ H1 F.c = some (CodeO F.c F.qual) ∧ sp vs H1 Q E
section
variable {X : Cx} {L : Addr → NF → Expr → Sp → Prop} {i k j : Nat} {x : Str} {E : XK} {t : TA} {e : Expr} {es : List Expr} {p pos : Pos}
theorem lamAt_of {pins : List (Addr × Obj)} {σ : L2.St} {H : Hp} {s : Shared} {f : Addr} {F : NF} {b : Expr} (I : Inv X pins σ H s) (z : H f = some (LamO f F b)) : PySem.W.FnAt f s.heap := by
  obtain ⟨od, sl, pm, ctv, ho⟩ := lamO_at I.hok z
  exact ⟨_, od, _, sl, ho⟩
theorem pe_calll (hL : ∀ f F b sp, L f F b sp → LamK X.prog X.w X.K X.mg X.base k f F b sp) (hr : Room j X.A) (hk : k ≤ j) (hx : Passes CX0 X E) (hN : X.N[i]? = some x) (hv : Vis X.env.scope x) (ha : PA X (e :: es) t)
    (hd : (x == ("__debug__" : Str)) = false := by decide) (hcd : (x == ("__classdict__" : Str)) = false := by decide)
    (he : starEach (e :: es) X.env = (false, eval e X.env) :: starEach es X.env := by rfl) (hpl : (backTo pos (starEach es X.env)).any (·.1) = false := by rfl) :
    PE X (.Call (.Name x p) (e :: es) [] pos) (tCallL L i E t) := by
  refine ⟨fun pins s σ H Q I h => ?_⟩
  obtain ⟨f, F, b, sp, slot, atF, isL, rd⟩ := h
  obtain ⟨ps, LO⟩ := hL f F b sp isL
  refine wpAny_Call_Name_kw (thn ((pe_var (pos := p) hN hv hd hcd).run pins s σ H (fun v H1 => v = .ref f ∧ H1 = H) I ⟨.ref f, slot, rfl, rfl⟩) fun u s1 ⟨v, H1, J1, rel1, both⟩ => ?_)
  obtain ⟨isF, sameH⟩ := both
  subst isF
  rw [sameH] at J1
  obtain rfl : u = Value.ref f := rel1
  refine PySem.W.callWith_F (first := []) (lamAt_of J1 atF) (thn (ha.run pos pins s1 σ H _ J1 rd) fun us s2 ⟨vs, H2, J2, r, h1, h2, q⟩ => ⟨lamAt_of J2 h1, ?_⟩) he hpl
  show wpAny _ _ (call (.ref f) us) _ _ _
  refine wpAny_call (codeAny_mono (LO.run X.A X.stack s2 H2 us vs Q E (hr.mono hk) J2.env0 h1 h2 r q) fun r s' out => ?_)
  cases r with
  | error e => exact hx pins σ H2 s2 e s' J2 out
  | ok fl =>
    cases fl with
    | ret u => exact J2.after out
    | next => exact False.elim out
    | brk => exact False.elim out
    | cont => exact False.elim out
end
/-! ### all but the tables stay -/
theorem ExtN.of_same {H H' : Hp} (s : Same H H') : ExtN H H' := fun b o h _ => s b o h
theorem TabsN.same {T : List NTab} {H H' : Hp} (t : TabsN T H) (s : Same H H') : TabsN T H' := TabsN.ext t s
/-- all but the list at b and the tables is as it was -/
def ButN (b : Addr) (H H' : Hp) : Prop := ∀ a o, a ≠ b → (∀ ps, o ≠ .tbl ps) → H a = some o → H' a = some o
theorem ButN.refl (b : Addr) (H : Hp) : ButN b H H := fun _ _ _ _ h => h
theorem ButN.trans {b : Addr} {H H1 H2 : Hp} (x : ButN b H H1) (y : ButN b H1 H2) : ButN b H H2 := fun a o n t h => y a o n t (x a o n t h)
theorem ButN.of {b : Addr} {H H' : Hp} (x : But b H H') : ButN b H H' := fun a o n _ h => x a o n h
theorem ButN.ofN {b : Addr} {H H' : Hp} (x : ExtN H H') : ButN b H H' := fun a o _ t h => x a o h t
theorem frozen_tbl {o : HO} (h : frozen o) : ∀ ps, o ≠ .tbl ps := fun ps e => by
  rw [e] at h
  exact h
theorem ExtN.fz {H H' : Hp} (x : ExtN H H') : Fz H H' := fun a o f h => x a o h (frozen_tbl f)
theorem TabsN.but {T : List NTab} {b : Addr} {H H' : Hp} (t : TabsN T H) (hb : Box H b) (k : But b H H') : TabsN T H' := by
  obtain ⟨x, y, z, hb, _⟩ := hb
  intro p hp
  obtain ⟨ps, h1, h2, h3⟩ := t p hp
  refine ⟨ps, k _ _ (fun q => ?_) h1, h2, fun pos cv hc => ?_⟩
  · rw [q, hb] at h1
    cases h1
  · obtain ⟨c, e1, e2⟩ := h3 pos cv hc
    refine ⟨c, e1, k _ _ (fun q => ?_) e2⟩
    rw [q, hb] at e2
    unfold CodeO at e2
    cases e2
theorem Box.extN {b : Addr} {H H' : Hp} (x : Box H b) (s : ExtN H H') : Box H' b := by
  obtain ⟨x, y, z, h, i⟩ := x
  exact ⟨x, y, z, s _ _ h (fun _ e => by cases e), i⟩
/-! ### the end -/
/-- the tables of the defs of the top are known and empty -/
def TabsTop (K : PySem.W.Frag) (names : List Str) (h : Heap) : Prop := ∀ x ∈ names, ∀ c P, PySem.W.tabIn K x = some (c, P) → PySem.W.CodeHd h c P ∧ h.get? P = some (PySem.W.tabObj #[])
theorem walk_tabs {l : PySem.W.OpenLaw} {n k : Nat} {q : Program} {loose : List Str} {XP : (Str → Option Value) → Heap → Prop} {YP : World → Heap → Prop} {d : DefRec} {K : Params → PySem.W.Frag} {CX : World → CXT} {x : Str} (names : List Str)
    (most : l.most = some n) (fits : n ≤ sizeLine) (noDef : d.params.defaults = []) (room : Room k callerA) (hrec : names.all (fun y => ((recsOf q).find? fun e => e.name == y).isSome) = true) (frag : ∀ (w : World) (h : Heap), YP w h → (K w.params).In h)
    (F : ∀ (w : World) (mg : Str → Option Value) (fa : Addr) (h : Heap), YP w h → (K w.params).In h → h.Ns mainGlobals mg → mg d.name = some (.ref fa) → TabsTop (K w.params) names h → LawAtS l w (K w.params) (CX w) k n x mg fa h)
    (never : ∀ (w : World) (H : Hp) (s : Shared) (e : Value) (s' : Shared), CX w [] H s (fun _ _ _ => False) e s' → False) :
    PySem.W.WalkO q loose XP YP l.row.toRowW d [] (fun f vs => PySem.call f vs) := by
  refine Att.attach_callB most noDef fun w s₀ s₁ mg mb fa o pm cd doc a vs ns G Y ho hd hcd isLaw hobj hints hlen hbits hg => ?_
  have inK := frag w _ Y
  have tabs : TabsTop (K w.params) names s₁.heap := fun y hy c P ht => by
    have z := List.all_eq_true.mp hrec y hy
    obtain ⟨dL, hdL⟩ := Option.isSome_iff_exists.mp z
    exact PySem.W.tab_of G.T inK hdL ht
  obtain ⟨fd, cs, sp, hT, nT, C, hb, hsp, hF⟩ := F w mg fa _ Y inK G.T.g isLaw tabs
  exact law_callTs inK G.T.g G.T.b G.T.builtins G.T.nolimit hg hT nT C G.T.bmain hobj hints (Nat.le_trans hlen fits) room hF hb (fun H hH hS => hsp H a ns hlen hbits hH hS) fun H e s' => never w H s₁ e s'
end Rs
namespace Rs
open PySem PySem.Spec PyProof.Rows L2 LamX NdefX
/-- the name of the lambdas in the def x -/
def lamQ (x : Str) : Str := x ++ ".<locals>." ++ "<lambda>"
theorem code_tab {K : PySem.W.Frag} {x : Str} {f c P : Addr} {oc : Value} {od : Option Addr} {fd : FuncData} {sl : Array (Option Value)} (a : PySem.W.nsIn K mainGlobals x = some (some (.ref f))) (l : K.lookup f = some ⟨oc, od, .func fd, sl⟩) (t : PySem.W.tabIn K x = some (c, P)) : fd.code = .ref c := by
  unfold PySem.W.tabIn at t
  rw [a] at t
  dsimp only at t
  rw [l] at t
  dsimp only at t
  split at t
  · rename_i c2 hc
    split at t
    · split at t
      · cases t
        exact hc
      · cases t
    · cases t
  · cases t
/-- a def by its body, with what is known of its code object -/
theorem Fun.okC {P : Program} {w : World} {K : PySem.W.Frag} {mg : Str → Option Value} {base : Heap} {x qual : Str} {st : Stmt} {f : Addr} {fd : FuncData} {N ps : List Str} {k : Nat} {sp : Sp} (F : Fun K x qual st f fd) (S : FnScope N ps (defScope st)) (len : ∀ vs H Q E, sp vs H Q E → vs.length = ps.length)
    (hbody : ∀ (cdv : Value), fd.code = cdv → ∀ (A : Around) (outer : List Env) (s : Shared) (H : Hp) (vs : List V) (Q : VK) (E : XK), Room k (A.deeper (envOfC qual (defScope st) s.heap.objs.size f cdv)) → sp vs H Q E →
      ∃ t, PSs (cxOf CX0 P w K mg base N qual (defScope st) f cdv A outer s H E).nox (defBody st) t ∧ t { nx := fun _ H' => Q .non H', rt := Q } (start N vs) H) : FnOk P w K mg base CX0 (k + 1) f fd ps sp := by
  obtain ⟨oc, od, kV, doc, pm, an, cdv, ct, osl, rfl, lk, hcd⟩ := F.ex
  refine fn_of lk hcd S len fun A outer s H vs Q E hr hsp => ?_
  obtain ⟨t, h, q⟩ := hbody cdv rfl A outer s H vs Q E hr hsp
  exact ⟨t, h.nox, q⟩
/-- [e for x in l if t] over a list of ints -/
theorem lsel {K : PySem.W.Frag} {L : Addr} {ns : List Int} {te el : TE} {tt : TT} {sl : Nat} {σ : L2.St} {H : Hp} {Q : VK} (c : Int → Bool) (f : Int → V) (hte : ∀ R : VK, R (.ref L) H → te σ H R) (hL : H L = some (.lst (ns.map V.int))) (ln : ns.length ≤ 3000)
    (htt : ∀ n ∈ ns, ∀ (Hc : Hp) (R : Bool → Hp → Prop), Same H Hc → (∀ Hd, Same Hc Hd → R (c n) Hd) → tt ((wipe σ [sl]).set sl (some (.int n))) Hc R)
    (hel : ∀ n ∈ ns, ∀ (Hc : Hp) (R : VK), Same H Hc → (∀ Hd, Same Hc Hd → R (f n) Hd) → el ((wipe σ [sl]).set sl (some (.int n))) Hc R)
    (k : ∀ D H', H D = none → Same H H' → H' D = some (.lst ((ns.filter c).map f)) → Q (.ref D) H') : tLc (iList K te) (gName sl) tt el [sl] σ H Q := by
  refine hte _ ⟨L, rfl, ⟨_, SqL.of hL⟩, fun D hD => lc_it walk_list (fun i Hc => Hc D = some (.lst (((ns.take i).filter c).map f)) ∧ Same H Hc) ⟨upd_same, same_new hD⟩ (fun i Hc _ hR => hR.2.seq (SqL.of hL)) (fun j x Hc H' hj hR hy => ?_) (fun Hc hR => ?_)⟩
  · obtain ⟨rfl, hx⟩ := hy
    obtain ⟨hDc, sc⟩ := hR
    rw [List.getElem?_map] at hx
    obtain ⟨n, hn, rfl⟩ := Option.map_eq_some_iff.mp hx
    refine ⟨by simp [wipe, List.set_set], htt n (List.mem_of_getElem? hn) _ _ sc fun Hd sd => ?_⟩
    have z : (ns.take (j + 1)).filter c = (ns.take j).filter c ++ (if c n = true then [n] else []) := by
      rw [take_snoc hn, List.filter_append, List.filter_cons, List.filter_nil]
    refine ifB (fun e => ?_) (fun e => ?_)
    · refine hel n (List.mem_of_getElem? hn) _ _ (sc.trans sd) fun He se => ⟨_, se _ _ (sd _ _ hDc), ?_, ?_, same_lst ((sc.trans sd).trans se) hD⟩
      · rw [List.length_map]
        have := List.length_filter_le c (ns.take j)
        rw [List.length_take] at this
        exact szL2 (by omega)
      · rw [upd_same, z, e, if_pos rfl, List.map_append]
        rfl
    · refine ⟨?_, sc.trans sd⟩
      rw [z, e, if_neg Bool.false_ne_true, List.append_nil]
      exact sd _ _ hDc
  · rw [List.length_map, List.take_length] at hR
    exact k D Hc hD hR.2 hR.1
/-- [e for x in t] over a tuple of any things -/
theorem lmapTI {K : PySem.W.Frag} {L : Addr} {xs : List V} {te el : TE} {sl : Nat} {σ : L2.St} {H : Hp} {Q : VK} (f : Nat → V) (hte : ∀ R : VK, (∀ H1, Same H H1 → H1 L = some (.tup xs) → R (.ref L) H1) → te σ H R) (ln : xs.length ≤ 3000)
    (hel : ∀ (j : Nat) (x : V), xs[j]? = some x → ∀ (Hc : Hp) (R : VK), Same H Hc → (∀ Hd, Same Hc Hd → R (f j) Hd) → el ((wipe σ [sl]).set sl (some x)) Hc R)
    (k : ∀ D H', H D = none → Same H H' → H' D = some (.lst ((List.range xs.length).map f)) → Q (.ref D) H') : tLc (iTup K te) (gName sl) tYes el [sl] σ H Q := by
  refine hte _ fun H1 s1 hL => ⟨L, rfl, ⟨_, SqT.of hL⟩, fun D hD => lc_it walk_tup (fun i Hc => Hc D = some (.lst ((List.range i).map f)) ∧ Same H1 Hc) ⟨upd_same, same_new hD⟩ (fun i Hc _ hR => (Fz.of_same hR.2).sqT (SqT.of hL)) (fun j x Hc H' hj hR hy => ?_) (fun Hc hR => k D Hc (s1.free hD) (s1.trans hR.2) hR.1)⟩
  obtain ⟨rfl, hx⟩ := hy
  obtain ⟨hDc, sc⟩ := hR
  refine ⟨by simp [wipe, List.set_set], ?_⟩
  dsimp only [tYes]
  rw [if_pos rfl]
  have lt : j < xs.length := (List.getElem?_eq_some_iff.mp hx).1
  refine hel j x hx _ _ (s1.trans sc) fun Hd sd => ?_
  refine ⟨_, sd _ _ hDc, ?_, ?_, same_lst (sc.trans sd) hD⟩
  · rw [List.length_map, List.length_range]
    exact szL2 (by omega)
  · rw [upd_same, List.range_succ, List.map_append]
    rfl
end Rs
/-! f"{n:+d}" of great n -/
namespace Rs
open PySem PySem.Spec PyProof.Rows L2
def bigK : Nat := 400
def bigN : Nat := 10 ^ bigK
theorem pow_le {n : Nat} (h : n ≤ bigK) : 10 ^ n ≤ bigN := Nat.pow_le_pow_right (by decide) h
theorem pow16 (k : Nat) : 10 ^ k ≤ 2 ^ (4 * k) := by
  rw [Nat.pow_mul]
  exact Nat.pow_le_pow_left (by decide) k
theorem big_small {n : Nat} (h : n < 10 ^ 18) : n < bigN := Nat.lt_of_lt_of_le h (pow_le (by decide))
theorem plus_lenB {n : Int} (h : n.natAbs < bigN) : (plusS n).length ≤ 402 := by
  have e := PySem.int_text_length_le10 (a := n) (k := bigK) (by decide) h
  have l : (nS n).length ≤ 401 := by
    unfold nS
    rw [PySem.ofString_length]
    have z : bigK = 400 := rfl
    omega
  unfold plusS
  split
  · omega
  · rw [Str.length_append]
    have : (Str.ofString "+").length = 1 := by decide
    omega
theorem log_big {n : Int} (h : n.natAbs < bigN) : n.natAbs.log2 < 1920 := by
  by_cases z : n.natAbs = 0
  · rw [z]; decide
  · refine Nat.lt_of_lt_of_le ((Nat.log2_lt (k := 4 * bigK) z).mpr (Nat.lt_of_lt_of_le h (pow16 bigK))) (by decide)
theorem fmt_treeB {n : Int} {t u : Tok} (h : n.natAbs < bigN) : Meets (Builtin.«int.__format__» ⟨[.int n t, .str (Str.ofString "+d") u], []⟩) (fun _ R s => ∀ t' k, R (.ok (.ret (.str (plusS n) t'))) { s with toks := k }) := by
  apply PySem.W.KPc.meets_of
  intro prog w A s Q E hq
  have hl : (plusS n).length ≤ sizeLine := Nat.le_trans (plus_lenB h) (by rw [sizeLine_eq]; decide)
  have hlog := log_big h
  unfold Builtin.«int.__format__»
  repeat (first
    | (with_reducible refine ret_text2 (T := plusS n) hl ?_ hq)
    | (refine wpAny_bind (wpAny_of_eq (overDigitLimit_small (log_big h)) ?_))
    | wp_step)
  conv =>
    lhs
    arg 1
    change ({ align := 62, sign := some 43, type := some 100 } : PySem.Builtin.Float.FormatSpec)
  conv =>
    lhs
    arg 3
    change ([] : List Nat)
  conv =>
    lhs
    arg 4
    change ((Nat.toDigits 10 n.natAbs).map fun c => (if ((100 : Nat) == 88) = true then c.toUpper else c).toNat)
  conv =>
    lhs
    arg 6
    change 3
  exact plus_text
/-- {e:+d} -/
def tFmtPlusB (te : TE) : TE := fun σ H Q => te σ H fun x H1 => ∃ i : Int, x = .int i ∧ i.natAbs < bigN ∧ Q (.str (plusS i)) H1
theorem pe_fmtPlusB {X : Cx} {e spec : Expr} {te : TE} {pos : Pos} (he : PE X e te) (hs : PE X spec (tC (.str (Str.ofString "+d")))) : PE X (.FormattedValue e (-1) (some spec) pos) (tFmtPlusB te) := by
  refine ⟨fun pins s σ H Q I h => ?_⟩
  refine wpAny_FormattedValue_spec (thn (he.run pins s σ H _ I h) fun v s1 hv => ?_)
  obtain ⟨x, H1, I1, r1, i, rfl, hz, q⟩ := hv
  obtain ⟨t, rfl⟩ := r1
  refine thn (hs.run pins s1 σ H1 (fun y H2 => y = .str (Str.ofString "+d") ∧ H2 = H1) I1 ⟨rfl, rfl⟩) fun r s2 hr => ?_
  obtain ⟨y, H2, I2, r2, rfl, rfl⟩ := hr
  obtain ⟨u, rfl⟩ := r2
  refine ⟨_, u, rfl, ?_⟩
  exact PySem.W.KXf.field_int rfl (by decide +kernel) (by decide +kernel) (fun u => fmt_treeB hz) fun t' k => ⟨.str (plusS i), H2, I2.tok k, ⟨t', rfl⟩, q⟩
end Rs
/-! x[::s] of a text, s is -1 -/
namespace Rs
open PySem PySem.Spec PyProof.Rows L2
section
variable {X : Cx}
def tRevS (te : TE) (ts : TO) : TE := fun σ H Q => te σ H fun x H1 => ts σ H1 fun o H2 => o = some (-1) ∧ ∃ z : Str, x = .str z ∧ z.length ≤ sizeLine ∧ ∀ y : Str, y.length ≤ z.length → (∀ c ∈ TL.tl y, c ∈ TL.tl z) → Q (.str y) H2
theorem pe_revS {e es : Expr} {te : TE} {ts : TO} {p3 pos : Pos} (he : PE X e te) (hst : PO X (some es) ts) : PE X (.Subscript e (.Slice none none (some es) p3) pos) (tRevS te ts) := by
  refine ⟨fun pins s σ H Q I h => ?_⟩
  refine Subscript_ (thn (he.run pins s σ H _ I h) fun v s1 r1 => ?_)
  obtain ⟨x, H1, I1, r1, q1⟩ := r1
  refine wpAny_Slice (thn (po_none.run pins s1 σ H1 (fun o H2 => o = none ∧ H2 = H1) I1 ⟨rfl, rfl⟩) fun vl s2 res => ?_)
  obtain ⟨l, H2, I2, pl, el, e2⟩ := res
  subst el e2
  refine thn (po_none.run pins s2 σ H2 (fun o H3 => o = none ∧ H3 = H2) I2 ⟨rfl, rfl⟩) fun vu s3 res => ?_
  obtain ⟨u, H3, I3, pu, eu, e3⟩ := res
  subst eu e3
  refine thn (hst.run pins s3 σ H3 _ I3 q1) fun vs s4 res => ?_
  obtain ⟨o, H4, I4, ps, eo, z, rfl, hz, q⟩ := res
  subst eo
  obtain ⟨t, rfl⟩ := r1
  have I5 : Inv X pins σ H4 { s4 with heap := s4.heap.push { cls := .type "slice", data := .fields #[vl, vu, vs] } } := I4.kept (t' := s4.toks) fun b ob q => Heap.get?_push_of_some _ q
  obtain ⟨os, hos, hcs, hds⟩ := Heap.IsSliceOf.new s4.heap vl vu vs
  obtain ⟨l, rfl, el⟩ := IsPart.raw pl
  obtain ⟨u, rfl, eu⟩ := IsPart.raw pu
  obtain ⟨st, rfl, es2⟩ := IsPart.raw ps
  obtain ⟨k, rfl⟩ : ∃ k, st = some (-1, k) := by
    cases st with
    | none => cases es2
    | some p =>
      obtain ⟨i, k⟩ := p
      have es3 : i = -1 := by injection es2
      exact ⟨k, by rw [es3]⟩
  show wpAny (model X.prog X.w) X.A (subscriptTail e (.Slice none none (some es) p3) (.str z t) (.ref s4.heap.objs.size)) (EP X pins σ Q) X.xe _
  refine tail_any (ops := [.ref s4.heap.objs.size, .str z t]) (typeIs_str _ _ _) F.slot_str_getitem.lookup ?_ (by with_unfolding_all rfl)
  refine wpAny_getItem_str_slice (l := l) (u := u) (st := some (-1, k)) ⟨os, hos, hcs, hds⟩ rfl ?_
  have made : sliceMade z t l u (some (-1, k)) = .str ⟨((slicePicked z l u (some (-1, k))).filterMap (z.cps[·]?)).toArray⟩ := by
    unfold sliceMade
    rw [if_neg (by simp)]
  rw [made]
  have ln : (⟨((slicePicked z l u (some (-1, k))).filterMap (z.cps[·]?)).toArray⟩ : Str).length ≤ z.length := by
    show (List.filterMap _ (slicePicked z l u (some (-1, k)))).toArray.size ≤ z.length
    rw [List.size_toArray]
    exact Nat.le_trans (List.length_filterMap_le _ _) (sliceIndicesBy_le _ _ _ (show (-1 : Int) ≠ 0 by decide) z.length)
  refine ⟨Nat.le_trans ln hz, .str _, H4, I5.tok _, ⟨_, rfl⟩, q _ ln fun c hc => ?_⟩
  rw [TL.tl_mk] at hc
  obtain ⟨i, _, hi⟩ := List.mem_filterMap.mp hc
  have hi : (TL.tl z)[i]? = some c := by
    rw [← hi]
    exact Array.getElem?_toList
  exact List.mem_of_getElem? hi
theorem vals_signs : ∀ {l : List Nat} {us : List Value}, us.length = l.length → (∀ (j : Nat) (v : Value), us[j]? = some v → ∃ (c : Nat) (u : Tok), l[j]? = some c ∧ v = Value.str ⟨#[c]⟩ u) → Vals (l.map fun c => V.str ⟨#[c]⟩) us
  | [], [], _, _ => .nil
  | [], _ :: _, h, _ => by cases h
  | _ :: _, [], h, _ => by cases h
  | c :: l, v :: us, h, g => by
    obtain ⟨c', u, e1, e2⟩ := g 0 v rfl
    injection e1 with e1
    subst e1
    refine .cons ⟨u, e2⟩ (vals_signs (by simpa using h) fun j w hw => ?_)
    exact g (j + 1) w hw
/-- list(x) of a text -/
def rListS : List V → Hp → VK → Prop := fun xs H Q => ∃ z : Str, xs = [.str z] ∧ z.length ≤ sizeLine ∧ ∀ p, H p = none → Q (.ref p) (upd H p (.lst ((TL.tl z).map fun c => V.str ⟨#[c]⟩)))
theorem call_listS (hc : X.calm = true) : CallR X (.type "list") rListS := by
  intro pins s σ H xs us Q I r h
  obtain ⟨z, rfl, hz, q⟩ := h
  obtain ⟨u, rfl, rx⟩ := vals1 r
  obtain ⟨t, rfl⟩ := rx
  refine call_list_str (I.ok.hd hc) z t (fun h' tk acc' c' kp e it => ?_) hz
  have rel : Vals ((TL.tl z).map fun c => V.str ⟨#[c]⟩) acc'.toList := vals_signs (by
    have a := it.1
    rw [Array.length_toList, a]
    exact (Array.length_toList).symm) fun j v hv => by
    obtain ⟨c, u, hc, e2⟩ := it.2 j v (by rw [← hv]; exact (Array.getElem?_toList).symm)
    exact ⟨c, u, by rw [← hc]; exact Array.getElem?_toList, e2⟩
  exact ⟨.ref s.heap.objs.size, _, I.laid (t' := tk) kp (Nat.le_refl _) (show ObjOk X.prog X.w _ h' _ (.lst ((TL.tl z).map fun c => V.str ⟨#[c]⟩)) from ⟨by rw [List.length_map]; exact Nat.le_trans (Nat.le_of_eq Array.length_toList) hz, acc'.toList, c', rel, by simpa using e⟩), rfl, q _ (I.hok.fresh (Nat.le_refl _))⟩
end
end Rs
/-! C.m(e, ..), m a classmethod, within a try: what it lets out is wished for at the caller's slots -/
namespace Rs
open PySem PySem.Spec PyProof.Rows L2 ClX
section
variable {X : Cx} {CX : CXT} {C p g : Addr} {mc : Value} {k : Nat} {sp : Sp} {E : L2.St → XK} {m : Str} {pos apos : Pos} {o e : Expr} {es : List Expr} {ta : TE} {t : TA} {pins : List (Addr × Obj)} {σ : L2.St} {H : Hp} {s : Shared}
theorem run_cmS {q : Addr} {E : XK} {Q : VK} {us : List Value} {vs : List V} (F : FnR X.prog X.w X.K X.mg X.base CX k g sp) (hr : Room k X.A) (hx : PassesAt CX X σ E) (I : Inv X ((q, PySem.W.methodObj (.ref g) (.ref C)) :: pins) σ H s)
    (r : Vals vs us) (h : sp (.ref C :: vs) H Q E) : wpAny (model X.prog X.w) X.A (call (.ref q) us) (EP X pins σ Q) X.xe s := by
  have z : wpAny (model X.prog X.w) X.A (call (.ref q) us) (EP X ((q, PySem.W.methodObj (.ref g) (.ref C)) :: pins) σ Q) X.xe s := by
    refine wpAny_call (PySem.W.method_call (pin_at I) (codeAny_mono (F X.A X.stack s H (.ref C :: us) (.ref C :: vs) Q E hr I.env0 (.cons rfl r) h) fun r s' hq => ?_))
    cases r with
    | error e => exact hx _ H s e s' I hq
    | ok fl =>
      cases fl with
      | ret u => exact I.after hq
      | next => exact False.elim hq
      | brk => exact False.elim hq
      | cont => exact False.elim hq
  exact thn z fun _ _ y => unpinE y
def tCMethS (C : Addr) (sp : Sp) (E : L2.St → XK) (ta : TE) (t : TA) : TE := fun σ H Q => ta σ H fun x H1 => x = .ref C ∧ t σ H1 fun vs H2 => sp (.ref C :: vs) H2 Q (E σ)
theorem pe_cmethT {pl : Sem Bool} (he : PE X o ta) (r : CRead X.K C mc) (c : CMet X.K C mc m p g) (F : FnR X.prog X.w X.K X.mg X.base CX k g sp) (hr : Room k X.A) (hx : ∀ σ, PassesAt CX X σ (E σ)) (ha : PA X (e :: es) t)
    (hst : starEach (e :: es) X.env = (false, eval e X.env) :: starEach es X.env := by rfl) (hpl : (backTo pos (starEach es X.env)).any (·.1) = false := by rfl)
    (ht : eval (.Call (.Attribute o m apos) (e :: es) [] pos) X.env = (do
      let ov ← eval o X.env
      standAt apos.atName
      let (f, first) ← holding [ov] (getMethod ov m pl)
      callWith pos f first (backTo pos (starEach (e :: es) X.env)) (backToKw pos (keywordEach [] X.env))) := by rfl) :
    PE X (.Call (.Attribute o m apos) (e :: es) [] pos) (tCMethS C sp E ta t) := by
  refine ⟨fun pins s σ H Q I h => ?_⟩
  refine PySem.W.methodCall_KW (pl := pl) (thn (he.run pins s σ H _ I h) fun u s1 res => ?_) ht
  obtain ⟨x, H1, I1, rx, ex, q⟩ := res
  subst ex
  cases (show u = Value.ref C from rx)
  refine getmethcm_ok I1 r c fun s2 I2 => ?_
  refine callwith_cm I2 (base_none I1 (Nat.le_refl _)) c.fi (thn (ha.run pos _ s2 σ H1 _ I2 q) fun us s3 res => ?_) hst hpl
  obtain ⟨vs, H2, I3, rv, q2⟩ := res
  exact ⟨⟨pin_at I3, I3.kIn⟩, run_cmS F hr (hx σ) I3 rv q2⟩
end
end Rs
/-! try .. except (X, Y): one clause for two classes -/
namespace Rs
open PySem PySem.Spec PyProof.Rows L2
/-- what the clause 'except (c1, c2)' wishes of an exception of the body -/
def wTup (K : PySem.W.Frag) (c1 c2 : Value) (ts : Addr → Value → Option Addr → TS) (Wout : WX) (D : Ends) : WX := fun cls d σ H =>
  ∃ b, PySem.W.exmAny K cls [c1, c2] = some b ∧ (b = true → ∀ a, H a = none → ts a cls d D σ H) ∧ (b = false → Wout cls d σ H)
theorem exm_pair {K : PySem.W.Frag} {cls c1 c2 : Value} {b1 b2 : Bool} (e1 : PySem.W.exmOne K cls c1 = some b1) (e2 : PySem.W.exmOne K cls c2 = some b2) : PySem.W.exmAny K cls [c1, c2] = some (b1 || b2) := by
  unfold PySem.W.exmAny PySem.W.exmAny PySem.W.exmAny
  rw [e1, e2]
  show some (b1 || (b2 || false)) = _
  rw [Bool.or_false]
theorem traced_keeps {h h' B : Heap} {a : Addr} {Z : Obj → Prop} {fl : Value} (x : HandSPX.TracedZ h B a Z fl) (k : ∀ b o, h.get? b = some o → h'.get? b = some o) : HandSPX.TracedZ h' B a Z fl := by
  obtain ⟨oe, vs, T, oT, ts, he, hz, hd, h1, n1, n2, hT, r⟩ := x
  exact ⟨oe, vs, T, oT, ts, k _ _ he, hz, hd, h1, n1, n2, k _ _ hT, r⟩
theorem flying_keep {h h' B : Heap} {l : List Env} {a : Addr} {Z : Obj → Prop} (x : HandSPX.FlyingZ B l a Z h) (k : ∀ b o, h.get? b = some o → h'.get? b = some o) : HandSPX.FlyingZ B l a Z h' :=
  ⟨fun b o q => k b o (x.1 b o q), x.2.1, x.2.2.1.of_keeps fun b o q _ => ⟨o, k b o q, rfl⟩, traced_keeps x.2.2.2 k⟩
section
variable {X : Cx} {x1 x2 : Str} {c1 c2 : Value} {body suite : List Stmt} {b₀ : Stmt} {np1 np2 tpos pos pos' : Pos} {kk : Nat} {tb : WX → TS} {ts : Addr → Value → Option Addr → TS} {Wout : WX}
theorem ps_try_tup (hs : X.stack = X.env :: X.outer) (hf : X.env.frame = some X.env.locals) (n1 : Names X x1 c1) (n2 : Names X x2 c2) (tk : Takes X Wout)
    (hb : ∀ (W : WX) (pn : List (Addr × Obj)) (xe : Value → Shared → Prop), Takes (X.tr pn xe) W → PassesOwn (model X.prog X.w) X.A X.env xe → PSs (X.tr pn xe) body (tb W))
    (hsu : ∀ (a : Addr) (oe : Obj) (cls : Value) (d : Option Addr) (pn : List (Addr × Obj)), Zc cls d oe → (∃ vs, oe.data = .fields vs) → PSs (X.suite a ((a, oe) :: pn)) (b₀ :: suite) (ts a cls d)) :
    PS X (.Try body [.ExceptHandler (some (.Tuple [.Name x1 np1, .Name x2 np2] kk tpos)) none (b₀ :: suite) pos'] [] [] pos) (fun D σ H => tb (wTup X.K c1 c2 ts Wout D) D σ H) := by
  refine ⟨fun pins s σ H D I h => ?_⟩
  have ok := I.ok
  have hfr : X.A.frames = some (X.env :: X.outer) := by rw [ok.frames, hs]
  refine wpAny_Try_except ?_
  refine wpAny_mono ((hb (wTup X.K c1 c2 ts Wout D) (X.pn ++ pins) (fun e s₁ => wpAny (model X.prog X.w) X.A (noteFrame e X.env) (fun _ s₂ => wpAny (model X.prog X.w) X.A (setFlight e none) (fun _ s₃ =>
    wpAny (model X.prog X.w) X.A (handleBy e X.env [.ExceptHandler (some (.Tuple [.Name x1 np1, .Name x2 np2] kk tpos)) none (b₀ :: suite) pos']) (SP X pins D) X.xe s₃) X.xe s₂) X.xe s₁) (fun u s' xx => ?_) PassesOwn.looking).run [] s σ H D (I.toTry _) h) (fun f s1 hsp => ?_) (fun e s1 he => he)
  · obtain ⟨a, B, sI, pins', σ', H', cls, d, rfl, J', nb, up, sky, na, os, ag, b, hb1, hyes, hno⟩ := xx
    have J : Inv X pins σ' H' sI := J'.ofTry ok
    have sky' : Sky B (X.env :: X.outer) a (Zc cls d) X.env.locals s'.heap := by rw [← hs]; exact sky
    show wpAny (model X.prog X.w) X.A (noteFrame (.ref a) X.env) _ _ _
    refine Sky.land Zc.steady hfr hf sky' fun h3 fl3 up3 => ?_
    have notFr : ∀ {h : Heap} {o : Obj} {vs : Array Value}, h.FunFrames B (X.env :: X.outer) → h.get? a = some o → o.data = .fields vs → a ∉ frs (X.env :: X.outer) := fun {h o vs} ff e dd hm => by
      obtain ⟨_, o', e', hnf⟩ := ff.mem hm
      rw [e] at e'; cases e'
      exact hnf _ dd
    have inSuite : ∀ {h : Heap}, HandSPX.FlyingZ B (X.env :: X.outer) a (Zc cls d) h → sI.heap.UpToSlots h → ∃ oe vs, h.get? a = some oe ∧ Zc cls d oe ∧ oe.data = .fields vs ∧ Inv X pins σ' H' { s' with heap := h } ∧ Inv (X.suite a ((a, oe) :: (X.pn ++ pins))) [] σ' H' { s' with heap := h } := by
      intro h fl u
      have J3 : Inv X pins σ' H' { s' with heap := h } := J.landed nb fl.1 u os ag
      obtain ⟨oe, vs, he, hz, hd⟩ := fl.there
      have nfr := notFr fl.2.2.1 he hd
      have nL : a ≠ X.env.locals := fun z => nfr (List.mem_filterMap.mpr ⟨X.env, List.mem_cons_self, by rw [hf, z]⟩)
      have nF : a ∉ X.fs := fun hm => by
        obtain ⟨e, he, q⟩ := List.mem_filterMap.mp hm
        exact nfr (List.mem_filterMap.mpr ⟨e, List.mem_cons_of_mem _ he, q⟩)
      exact ⟨oe, vs, he, hz, hd, J3, J3.suite he hd na nL nF⟩
    obtain ⟨oe3, vs3, he3, hz3, hd3, J3, S3⟩ := inSuite fl3 (up.trans up3)
    refine wpAny_handleBy_cons (codeAny_handlers_test ?_) (by intro q; cases q)
    have look : ∀ {x : Str} {c : Value} {np : Pos} {Q : Value → Shared → Prop} {E : Value → Shared → Prop}, Names X x c → Q c { s' with heap := h3 } → wpAny (model X.prog X.w) (X.A.mark (some (.ref a))) (eval (.Name x np) X.env) Q E { s' with heap := h3 } := fun {x c np Q E} hc q => by
      obtain ⟨hg, hdbg, hm | ⟨hm, hv, hnn⟩⟩ := hc
      · exact ld_glob (X := X.suite a ((a, oe3) :: (X.pn ++ pins))) S3 hg hm q hdbg
      · exact ld_blt (X := X.suite a ((a, oe3) :: (X.pn ++ pins))) S3 hg hm hv q hnn hdbg
    refine wpAny_Tuple ?_
    refine wpAny_items_cons (look n1 ?_)
    refine wpAny_items_cons (look n2 ?_)
    refine wpAny_items_nil ⟨by size_fits, ?_⟩
    have kp : ∀ q o, h3.get? q = some o → (h3.push { cls := .type "tuple", data := .seq [c1, c2].toArray }).get? q = some o := fun _ _ z => Heap.get?_push_of_some _ z
    have fl4 := flying_keep fl3 kp
    have up4 : sI.heap.UpToSlots (h3.push { cls := .type "tuple", data := .seq [c1, c2].toArray }) := (up.trans up3).trans (Heap.UpToSlots.of_keeps kp)
    have hp : (h3.push { cls := .type "tuple", data := .seq [c1, c2].toArray }).get? h3.objs.size = some { cls := .type "tuple", data := .seq [c1, c2].toArray } := Heap.get?_push_size h3 rfl
    obtain ⟨oe4, vs4, he4, hz4, hd4, J4, S4⟩ := inSuite fl4 up4
    have LT : PySem.W.Looks (model X.prog X.w) (h3.push { cls := .type "tuple", data := .seq [c1, c2].toArray }) (typeOf (.ref a)) cls := fun A Q E s k q => wpAny_typeOf_ref (k _ _ he4) (by rw [hz4.1]; exact q)
    refine (PySem.W.exm_tup2 (M := model X.prog X.w) (J4.kIn) LT hp hb1).here ?_
    generalize h3.push { cls := .type "tuple", data := .seq [c1, c2].toArray } = h5 at fl4 up4 J4 S4 ⊢
    cases b with
    | true =>
      refine codeAny_handlers_suite ?_
      refine HandSPX.lands_againZ fl4 fun h6 fl6 up6 => ?_
      obtain ⟨oe6, vs6, he6, hz6, hd6, J6, S6⟩ := inSuite fl6 (up4.trans up6)
      refine wpAny_mono ((hsu a oe6 cls d (X.pn ++ pins) hz6 ⟨_, hd6⟩).run [] _ _ H' _ S6 (hyes rfl a na)) (fun f s6 hsp => ?_) (fun _ _ z => False.elim z)
      cases f with
      | next =>
        obtain ⟨σ6, H6, S7, q6⟩ := hsp
        exact ⟨_, _, S7.unsuite ok, q6⟩
      | brk =>
        obtain ⟨σ6, H6, S7, q6⟩ := hsp
        exact ⟨_, _, S7.unsuite ok, q6⟩
      | cont =>
        obtain ⟨σ6, H6, S7, q6⟩ := hsp
        exact ⟨_, _, S7.unsuite ok, q6⟩
      | ret u =>
        obtain ⟨v6, σ6, H6, S7, r6, q6⟩ := hsp
        exact ⟨_, _, _, S7.unsuite ok, r6, q6⟩
    | false =>
      show wpAny _ X.A (handleBy (.ref a) X.env []) _ _ _
      refine wpAny_handleBy_nil ?_
      obtain ⟨k1, k2, k3, oe, vs, T, oT, ts', he, hz, hd, h1, hr⟩ := id fl4
      unfold PySem.passOn
      refine wpAny_bind (wpAny_field he hd h1 ?_)
      rw [if_neg (show ¬ ((Value.ref T == Value.none) = true) from by simp)]
      have fin : wpAny (model X.prog X.w) X.A (setFlight (.ref a) X.env.frame) (fun _ s4 => wpAny (model X.prog X.w) X.A (throw (.ref a) : Sem Flow) (SP X pins D) X.xe s4) X.xe { s' with heap := h5 } := by
        rw [hf]
        refine HandSPX.setFlight_upZ fl4 fun h4 hh4 up5 => wpAny_throw (tk _ _ ?_)
        exact ⟨a, B, sI, pins, σ', H', cls, d, rfl, J, nb, up4.trans up5, .inr (.inr (by rw [hs]; exact hh4)), na, os, ag, hno rfl⟩
      first
        | exact wpAny_bind (wpAny_pure (wpAny_bind fin))
        | exact wpAny_bind fin
  · cases f with
    | next =>
      obtain ⟨σ', H', J', q⟩ := hsp
      exact wpAny_execs_nil ⟨σ', H', J'.ofTry ok, q⟩
    | brk =>
      obtain ⟨σ', H', J', q⟩ := hsp
      exact ⟨σ', H', J'.ofTry ok, q⟩
    | cont =>
      obtain ⟨σ', H', J', q⟩ := hsp
      exact ⟨σ', H', J'.ofTry ok, q⟩
    | ret u =>
      obtain ⟨v, σ', H', J', r, q⟩ := hsp
      exact ⟨v, σ', H', J'.ofTry ok, r, q⟩
end
end Rs
/-! x[::s]: what a thing answers to a slice that tells a step alone (StepR), the subscript over it, and lists turned round -/
namespace Rs
open PySem PySem.Spec PyProof.Rows L2
section
variable {X : Cx}
/-- r tells what the thing at b answers, asked with a slice object of the step o -/
structure StepR (X : Cx) (r : Addr → Option Int → Hp → VK → Prop) : Prop where
  go : ∀ {pins : List (Addr × Obj)} {t : Shared} {σ : L2.St} {G : Hp} {b w : Addr} {a1 a2 a3 : Value} {o : Option Int} {Q : VK}, Inv X pins σ G t → t.heap.IsSliceOf w a1 a2 a3 → IsPart a1 none → IsPart a2 none → IsPart a3 o → r b o G Q →
    ∃ (T : String) (m : String), typeLookup (.type T) "__getitem__" = pure (some (.builtin m)) ∧ t.TypeIs (.ref b) T ∧ wpAny (model X.prog X.w) X.A (getItem (.ref b) (.ref w)) (EP X pins σ Q) X.xe t
def tStep (r : Addr → Option Int → Hp → VK → Prop) (te : TE) (ts : TO) : TE := fun σ H Q => te σ H fun x H1 => ts σ H1 fun o H2 => ∃ b, x = .ref b ∧ r b o H2 Q
theorem pe_step {r : Addr → Option Int → Hp → VK → Prop} {e es : Expr} {te : TE} {ts : TO} {p3 pos : Pos} (hr : StepR X r) (he : PE X e te) (hst : PO X (some es) ts) : PE X (.Subscript e (.Slice none none (some es) p3) pos) (tStep r te ts) := by
  have nothing : ∀ {pins : List (Addr × Obj)} {t : Shared} {σ : L2.St} {G : Hp}, Inv X pins σ G t → _ := fun {pins t σ G} J => po_none.run pins t σ G (fun o G' => o = none ∧ G' = G) J ⟨rfl, rfl⟩
  constructor
  intro pins t0 σ G0 Q I0 wish
  refine Subscript_ (thn (he.run pins t0 σ G0 _ I0 wish) ?_)
  rintro v t1 ⟨x, G1, I1, rv, wish1⟩
  refine wpAny_Slice (thn (nothing I1) ?_)
  rintro a1 t2 ⟨_, _, I2, q1, rfl, rfl⟩
  refine thn (nothing I2) ?_
  rintro a2 t3 ⟨_, _, I3, q2, rfl, rfl⟩
  refine thn (hst.run pins t3 σ _ _ I3 wish1) ?_
  rintro a3 t4 ⟨o, G4, I4, q3, b, rfl, wish2⟩
  cases rv
  obtain ⟨T, m, e1, e2, run⟩ := hr.go (I4.kept (t' := t4.toks) (fun _ _ q => Heap.get?_push_of_some _ q)) (Heap.IsSliceOf.new t4.heap a1 a2 a3) q1 q2 q3 wish2
  exact tail_any (ops := [.ref b, .ref t4.heap.objs.size]) e2 e1 run (by with_unfolding_all rfl)
/-- a list, the step -1: a new list, turned round -/
def rTurnL (K : PySem.W.Frag) : Addr → Option Int → Hp → VK → Prop := fun b o H Q => o = some (-1) ∧ ∃ xs, SqL K H b xs ∧ ∀ p, H p = none → Q (.ref p) (upd H p (.lst xs.reverse))
theorem step_turnL : StepR X (rTurnL X.K) := by
  constructor
  rintro pins t σ G b w a1 a2 a3 o Q I sl q1 q2 q3 ⟨rfl, xs, hx, wish⟩
  obtain ⟨its, vals, isl, short⟩ := I.list hx
  have size : its.toArray.size ≤ sizeLine := by
    have := vals.length
    rw [List.size_toArray]
    omega
  refine ⟨"list", _, PySem.slot_list_getitem.lookup, isl.isList.typeIs, wpAny_getItem_list_slice isl.isList sl q1 q2 q3 (by decide) ?_ size⟩
  rw [PySem.W.krv_pick]
  have new := I.laid (t' := t.toks) (o := .lst xs.reverse) (fun _ _ q => Heap.get?_push_of_some _ q) (Nat.le_refl _) ⟨by rw [List.length_reverse]; exact short, its.reverse, 0, vals.reverse, Heap.get?_push_size t.heap rfl⟩
  exact ⟨.ref t.heap.objs.size, _, new, rfl, wish _ (I.hok.fresh (Nat.le_refl _))⟩
def tTurnL (K : PySem.W.Frag) (te : TE) (ts : TO) : TE := tStep (rTurnL K) te ts
theorem pe_turnL {e es : Expr} {te : TE} {ts : TO} {p3 pos : Pos} (he : PE X e te) (hst : PO X (some es) ts) : PE X (.Subscript e (.Slice none none (some es) p3) pos) (tTurnL X.K te ts) := pe_step step_turnL he hst
end
end Rs
/-! a def that may raise, where it does not -/
namespace Rs
open PySem PySem.Spec PyProof.Rows L2
section
variable {P : Program} {w : World} {K : PySem.W.Frag} {mg : Str → Option Value} {base : Heap} {k : Nat} {f : Addr} {fd : FuncData} {ps : List Str} {sp : Sp}
def quietSp (sp : Sp) : Sp := fun vs H Q _ => sp vs H Q E0
theorem quiet (F : FnOk P w K mg base (L2.CX P w) k f fd ps sp) : FnOk P w K mg base CX0 k f fd ps (quietSp sp) := by
  refine ⟨fun vs H Q E h => F.len vs H Q E0 h, fun A outer s H args us vs Q E hr he hb hv hs => codeAny_mono (F.run A outer s H args us vs Q E0 hr he hb hv hs) fun r s' hq => ?_⟩
  cases r with
  | ok fl =>
    cases fl with
    | ret u => exact hq
    | next => exact hq
    | brk => exact hq
    | cont => exact hq
  | error e =>
    obtain ⟨a, B, H', cls, d, _, _, _, _, _, _, _, hE⟩ := hq
    exact hE
end
end Rs
namespace K09
open PySem PySem.Spec PyProof.Rows L2 Rs
local macro_rules | `(tactic| walk_at "om") => `(tactic| first | omega | (dsimp only; omega))
local macro_rules | `(tactic| walk_at "side") => `(tactic| first | omega | (dsimp only; omega) | decide | (unfold CMul; omega) | (unfold CDiv; omega) | (unfold CPow; omega) | exact wide_div (b := 64) (by omega) (by omega) (by decide) (by decide))
local macro_rules | `(tactic| walk_at "hp") => `(tactic| first | assumption | exact upd_same)
local macro_rules | `(tactic| walk_at "sq") => `(tactic| first | assumption | exact SqL.of (by assumption) | exact SqL.of upd_same)
local macro_rules | `(tactic| walk_at "st") => `(tactic| first
  | refine ⟨_, rfl, ?_⟩
  | (refine ⟨_, _, rfl, rfl, And.intro ?side ?_⟩; (case side => walk_at "side"))
  | refine ⟨_, _, rfl, rfl, ?_⟩
  | (refine' ⟨_, _, _, _, rfl, rfl, SqL.of ?hp, ?atx, ?_⟩; (case hp => walk_at "hp"); (case atx => exact rfl))
  | (refine' ⟨_, _, _, _, rfl, rfl, ?hp, ?atx, ?_⟩; (case hp => walk_at "hp"); (case atx => exact rfl))
  | (refine' ⟨_, _, rfl, Or.inl ?sq, ?_⟩; (case sq => walk_at "sq"))
  | refine Or.inl ⟨_, rfl, ?_⟩
  | refine Or.inr ⟨_, rfl, ?_⟩)
local macro_rules | `(tactic| walk_at "evd") => `(tactic| first
  | exact evd_int
  | exact evd_str
  | exact evd_non
  | exact evd_bl
  | exact evd_nil
  | (refine evd_cons ?_ (fun _ => ?_) <;> walk_at "evd")
  | (refine evd_tup ?_ (Nat.le_of_ble_eq_true rfl); walk_at "evd"))

def topS (i : Nat) : Stmt := PySem.Challenge.pw_ringsums_k09_texts_of_plans.main.body.getD i (.Pass ⟨0, 0, 0, 0⟩)
abbrev s_InvalidForm___init__ : Stmt := inClass (topS 3) 0
theorem sc_InvalidForm___init__ : FnScope ["self", "word"] ["self", "word"] (defScope s_InvalidForm___init__) := ⟨rfl, rfl, rfl, by decide +kernel, rfl, by decide +kernel, by decide +kernel⟩
abbrev s_InvalidLane___init__ : Stmt := inClass (topS 4) 0
theorem sc_InvalidLane___init__ : FnScope ["self", "word"] ["self", "word"] (defScope s_InvalidLane___init__) := ⟨rfl, rfl, rfl, by decide +kernel, rfl, by decide +kernel, by decide +kernel⟩
abbrev s_InvalidBlock___init__ : Stmt := inClass (topS 5) 0
theorem sc_InvalidBlock___init__ : FnScope ["self", "word"] ["self", "word"] (defScope s_InvalidBlock___init__) := ⟨rfl, rfl, rfl, by decide +kernel, rfl, by decide +kernel, by decide +kernel⟩
abbrev s_InvalidText___init__ : Stmt := inClass (topS 7) 0
theorem sc_InvalidText___init__ : FnScope ["self", "at"] ["self", "at"] (defScope s_InvalidText___init__) := ⟨rfl, rfl, rfl, by decide +kernel, rfl, by decide +kernel, by decide +kernel⟩
abbrev s_Form___init__ : Stmt := inClass (topS 15) 0
theorem sc_Form___init__ : FnScope ["self", "times", "plus", "by"] ["self", "times", "plus", "by"] (defScope s_Form___init__) := ⟨rfl, rfl, rfl, by decide +kernel, rfl, by decide +kernel, by decide +kernel⟩
abbrev s_Form___eq__ : Stmt := inClass (topS 15) 2
theorem sc_Form___eq__ : FnScope ["self", "other"] ["self", "other"] (defScope s_Form___eq__) := ⟨rfl, rfl, rfl, by decide +kernel, rfl, by decide +kernel, by decide +kernel⟩
abbrev s_Form___str__ : Stmt := inClass (topS 15) 3
theorem sc_Form___str__ : FnScope ["self"] ["self"] (defScope s_Form___str__) := ⟨rfl, rfl, rfl, by decide +kernel, rfl, by decide +kernel, by decide +kernel⟩
abbrev s_Form_read : Stmt := inClass (topS 15) 4
theorem sc_Form_read : FnScope ["cls", "text", "parts", "times", "plus", "by"] ["cls", "text"] (defScope s_Form_read) := ⟨rfl, rfl, rfl, by decide +kernel, rfl, by decide +kernel, by decide +kernel⟩
abbrev s_Lane___init__ : Stmt := inClass (topS 25) 0
theorem sc_Lane___init__ : FnScope ["self", "way", "sign", "shift", "deed"] ["self", "way", "sign", "shift", "deed"] (defScope s_Lane___init__) := ⟨rfl, rfl, rfl, by decide +kernel, rfl, by decide +kernel, by decide +kernel⟩
abbrev s_Lane___eq__ : Stmt := inClass (topS 25) 2
theorem sc_Lane___eq__ : FnScope ["self", "other"] ["self", "other"] (defScope s_Lane___eq__) := ⟨rfl, rfl, rfl, by decide +kernel, rfl, by decide +kernel, by decide +kernel⟩
abbrev s_Lane___str__ : Stmt := inClass (topS 25) 3
theorem sc_Lane___str__ : FnScope ["self"] ["self"] (defScope s_Lane___str__) := ⟨rfl, rfl, rfl, by decide +kernel, rfl, by decide +kernel, by decide +kernel⟩
abbrev s_Block___init__ : Stmt := inClass (topS 26) 0
theorem sc_Block___init__ : FnScope ["self", "rounds", "lanes", "lane"] ["self", "rounds", "lanes"] (defScope s_Block___init__) := ⟨rfl, rfl, rfl, by decide +kernel, rfl, by decide +kernel, by decide +kernel⟩
abbrev s_Block___eq__ : Stmt := inClass (topS 26) 1
theorem sc_Block___eq__ : FnScope ["self", "other"] ["self", "other"] (defScope s_Block___eq__) := ⟨rfl, rfl, rfl, by decide +kernel, rfl, by decide +kernel, by decide +kernel⟩
abbrev s_Block___str__ : Stmt := inClass (topS 26) 2
theorem sc_Block___str__ : FnScope ["self", "lane"] ["self"] (defScope s_Block___str__) := ⟨rfl, rfl, rfl, by decide +kernel, rfl, by decide +kernel, by decide +kernel⟩
abbrev s_Plan___init__ : Stmt := inClass (topS 27) 0
theorem sc_Plan___init__ : FnScope ["self", "blocks", "block"] ["self", "blocks"] (defScope s_Plan___init__) := ⟨rfl, rfl, rfl, by decide +kernel, rfl, by decide +kernel, by decide +kernel⟩
abbrev s_Plan___eq__ : Stmt := inClass (topS 27) 8
theorem sc_Plan___eq__ : FnScope ["self", "other"] ["self", "other"] (defScope s_Plan___eq__) := ⟨rfl, rfl, rfl, by decide +kernel, rfl, by decide +kernel, by decide +kernel⟩
abbrev s_Plan___str__ : Stmt := inClass (topS 27) 9
theorem sc_Plan___str__ : FnScope ["self", "block"] ["self"] (defScope s_Plan___str__) := ⟨rfl, rfl, rfl, by decide +kernel, rfl, by decide +kernel, by decide +kernel⟩
abbrev s_Plan_read : Stmt := inClass (topS 27) 10
theorem sc_Plan_read : FnScope ["cls", "text"] ["cls", "text"] (defScope s_Plan_read) := ⟨rfl, rfl, rfl, by decide +kernel, rfl, by decide +kernel, by decide +kernel⟩
abbrev s_is_whole : Stmt := topS 10
theorem sc_is_whole : FnScope ["value"] ["value"] (defScope s_is_whole) := ⟨rfl, rfl, rfl, by decide +kernel, rfl, by decide +kernel, by decide +kernel⟩
abbrev s_is_sequence : Stmt := topS 12
theorem sc_is_sequence : FnScope ["value"] ["value"] (defScope s_is_sequence) := ⟨rfl, rfl, rfl, by decide +kernel, rfl, by decide +kernel, by decide +kernel⟩
abbrev s_whole_in : Stmt := topS 13
theorem sc_whole_in : FnScope ["word", "digits"] ["word"] (defScope s_whole_in) := ⟨rfl, rfl, rfl, by decide +kernel, rfl, by decide +kernel, by decide +kernel⟩
abbrev s__text : Stmt := topS 16
theorem sc__text : FnScope ["times", "plus", "by", "upper"] ["times", "plus", "by"] (defScope s__text) := ⟨rfl, rfl, rfl, by decide +kernel, rfl, by decide +kernel, by decide +kernel⟩
abbrev s__upper : Stmt := topS 17
theorem sc__upper : FnScope ["times", "plus", "front"] ["times", "plus"] (defScope s__upper) := ⟨rfl, rfl, rfl, by decide +kernel, rfl, by decide +kernel, by decide +kernel⟩
abbrev s__parts : Stmt := topS 18
theorem sc__parts : FnScope ["text", "upper", "by", "_", "lower", "times", "plus"] ["text"] (defScope s__parts) := ⟨rfl, rfl, rfl, by decide +kernel, rfl, by decide +kernel, by decide +kernel⟩
abbrev s__upper_parts : Stmt := topS 19
theorem sc__upper_parts : FnScope ["upper", "front", "mark", "behind", "plus"] ["upper"] (defScope s__upper_parts) := ⟨rfl, rfl, rfl, by decide +kernel, rfl, by decide +kernel, by decide +kernel⟩
abbrev s__factor : Stmt := topS 20
theorem sc__factor : FnScope ["word"] ["word"] (defScope s__factor) := ⟨rfl, rfl, rfl, by decide +kernel, rfl, by decide +kernel, by decide +kernel⟩
abbrev s__blocks_in : Stmt := topS 28
theorem sc__blocks_in : FnScope ["lines", "found", "at", "line", "rounds", "lane", "lanes"] ["lines"] (defScope s__blocks_in) := ⟨rfl, rfl, rfl, by decide +kernel, rfl, by decide +kernel, by decide +kernel⟩
abbrev s__rounds_in : Stmt := topS 29
theorem sc__rounds_in : FnScope ["line", "word", "_", "text"] ["line"] (defScope s__rounds_in) := ⟨rfl, rfl, rfl, by decide +kernel, rfl, by decide +kernel, by decide +kernel⟩
abbrev s__lane_in : Stmt := topS 30
theorem sc__lane_in : FnScope ["line", "words", "way", "sign", "shift", "deed"] ["line"] (defScope s__lane_in) := ⟨rfl, rfl, rfl, by decide +kernel, rfl, by decide +kernel, by decide +kernel⟩
abbrev s__law_box : Stmt := topS 32
theorem sc__law_box : FnScope ["_law_script", "_law_k", "_law_cell", "_law_seed", "_law_wide"] ["_law_script", "_law_k"] (defScope s__law_box) := ⟨rfl, rfl, rfl, by decide +kernel, rfl, by decide +kernel, by decide +kernel⟩
abbrev s__law_take : Stmt := topS 33
theorem sc__law_take : FnScope ["_law_box_here", "_law_many", "_law_digit", "_law_near"] ["_law_box_here", "_law_many"] (defScope s__law_take) := ⟨rfl, rfl, rfl, by decide +kernel, rfl, by decide +kernel, by decide +kernel⟩
abbrev s__law_pick : Stmt := topS 34
theorem sc__law_pick : FnScope ["_law_box_here", "_law_some"] ["_law_box_here", "_law_some"] (defScope s__law_pick) := ⟨rfl, rfl, rfl, by decide +kernel, rfl, by decide +kernel, by decide +kernel⟩
abbrev s__law_form : Stmt := topS 35
theorem sc__law_form : FnScope ["_law_box_here", "_law_far", "_law_times", "_law_plus"] ["_law_box_here", "_law_far"] (defScope s__law_form) := ⟨rfl, rfl, rfl, by decide +kernel, rfl, by decide +kernel, by decide +kernel⟩
abbrev s__law_form_text : Stmt := topS 36
theorem sc__law_form_text : FnScope ["_law_form_here", "_law_times", "_law_plus", "_law_by", "_law_head", "_law_tail", "_law_text"] ["_law_form_here"] (defScope s__law_form_text) := ⟨rfl, rfl, rfl, by decide +kernel, rfl, by decide +kernel, by decide +kernel⟩
abbrev s__law_lane : Stmt := topS 37
theorem sc__law_lane : FnScope ["_law_box_here", "_law_far", "_law_way", "_law_sign"] ["_law_box_here", "_law_far"] (defScope s__law_lane) := ⟨rfl, rfl, rfl, by decide +kernel, rfl, by decide +kernel, by decide +kernel⟩
abbrev s__law_block : Stmt := topS 38
theorem sc__law_block : FnScope ["_law_box_here", "_law_lanes", "_law_far", "_law_rounds", "_law_turn"] ["_law_box_here", "_law_lanes", "_law_far"] (defScope s__law_block) := ⟨rfl, rfl, rfl, by decide +kernel, rfl, by decide +kernel, by decide +kernel⟩
abbrev s__law_known_plan : Stmt := topS 39
theorem sc__law_known_plan : FnScope ["_law_box_here", "_law_once", "_law_half", "_law_down"] ["_law_box_here"] (defScope s__law_known_plan) := ⟨rfl, rfl, rfl, by decide +kernel, rfl, by decide +kernel, by decide +kernel⟩
abbrev s__law_plan : Stmt := topS 40
theorem sc__law_plan : FnScope ["_law_box_here", "_law_blocks", "_law_lanes", "_law_far", "_law_found", "_law_rounds", "_law_some", "_law_at", "_law_form_here", "_law_times", "_law_plus", "_law_by", "_law_turn"] ["_law_box_here", "_law_blocks", "_law_lanes", "_law_far"] (defScope s__law_plan) := ⟨rfl, rfl, rfl, by decide +kernel, rfl, by decide +kernel, by decide +kernel⟩
abbrev s__law_lane_text : Stmt := topS 41
theorem sc__law_lane_text : FnScope ["_law_lane_here"] ["_law_lane_here"] (defScope s__law_lane_text) := ⟨rfl, rfl, rfl, by decide +kernel, rfl, by decide +kernel, by decide +kernel⟩
abbrev s__law_plan_text : Stmt := topS 42
theorem sc__law_plan_text : FnScope ["_law_plan_here", "_law_lines", "_law_rounds", "_law_lanes", "_law_lane_here"] ["_law_plan_here"] (defScope s__law_plan_text) := ⟨rfl, rfl, rfl, by decide +kernel, rfl, by decide +kernel, by decide +kernel⟩
abbrev s__law_lane_of : Stmt := topS 43
theorem sc__law_lane_of : FnScope ["_law_lane_here"] ["_law_lane_here"] (defScope s__law_lane_of) := ⟨rfl, rfl, rfl, by decide +kernel, rfl, by decide +kernel, by decide +kernel⟩
abbrev s__law_plan_of : Stmt := topS 44
theorem sc__law_plan_of : FnScope ["_law_plan_here", "_law_found", "_law_rounds", "_law_lanes", "_law_lane_here"] ["_law_plan_here"] (defScope s__law_plan_of) := ⟨rfl, rfl, rfl, by decide +kernel, rfl, by decide +kernel, by decide +kernel⟩
abbrev s__law_has_form : Stmt := topS 45
theorem sc__law_has_form : FnScope ["_law_word", "_law_found"] ["_law_word"] (defScope s__law_has_form) := ⟨rfl, rfl, rfl, by decide +kernel, rfl, by decide +kernel, by decide +kernel⟩
abbrev s__law_sort : Stmt := topS 46
theorem sc__law_sort : FnScope ["_law_line", "_law_words"] ["_law_line"] (defScope s__law_sort) := ⟨rfl, rfl, rfl, by decide +kernel, rfl, by decide +kernel, by decide +kernel⟩
abbrev s__law_due : Stmt := topS 47
theorem sc__law_due : FnScope ["_law_text", "_law_before", "_law_lines", "_law_at", "_law_line", "_law_sort_here"] ["_law_text"] (defScope s__law_due) := ⟨rfl, rfl, rfl, by decide +kernel, rfl, by decide +kernel, by decide +kernel⟩
abbrev s__law_bent : Stmt := topS 48
theorem sc__law_bent : FnScope ["_law_box_here", "_law_text", "_law_lines", "_law_form_here", "_law_at", "_law_odd", "_law_spot"] ["_law_box_here", "_law_text"] (defScope s__law_bent) := ⟨rfl, rfl, rfl, by decide +kernel, rfl, by decide +kernel, by decide +kernel⟩
abbrev s__law_read : Stmt := topS 49
theorem sc__law_read : FnScope ["_law_text", "_law_found", "e"] ["_law_text"] (defScope s__law_read) := ⟨rfl, rfl, rfl, by decide +kernel, rfl, by decide +kernel, by decide +kernel⟩
abbrev s_law : Stmt := topS 50
theorem sc_law : FnScope ["_law_script", "_law_k", "_law_box_here", "_law_turn", "_law_drawn", "_law_text", "_law_more", "_law_due_here"] ["_law_script"] (defScope s_law) := ⟨rfl, rfl, rfl, by decide +kernel, rfl, by decide +kernel, by decide +kernel⟩
/-- what the top has written -/
structure Txt (K : PySem.W.Frag) (mg : Str → Option Value) where
  c_RingError : Addr
  m_RingError : mg "RingError" = some (.ref c_RingError)
  c_InvalidForm : Addr
  m_InvalidForm : mg "InvalidForm" = some (.ref c_InvalidForm)
  a_InvalidForm___init__ : Addr
  d_InvalidForm___init__ : FuncData
  F_InvalidForm___init__ : Fun K "__init__" "InvalidForm.__init__" s_InvalidForm___init__ a_InvalidForm___init__ d_InvalidForm___init__
  b_InvalidForm___init__ : Binds K d_InvalidForm___init__ ["self", "word"] []
  k_InvalidForm___init__ : PySem.W.keepIn K (.ref a_InvalidForm___init__) = true
  x_InvalidForm : OexC K c_InvalidForm
  X_InvalidForm : ExX K c_InvalidForm
  f_InvalidForm : XfC K c_InvalidForm
  n_InvalidForm : PySem.W.findIn K (.ref c_InvalidForm) "word" = some none
  i_InvalidForm : PySem.W.findIn K (.ref c_InvalidForm) "__init__" = some (some (.ref a_InvalidForm___init__))
  t_InvalidForm : PySem.W.typeIn K (.ref a_InvalidForm___init__) = some (.type "function")
  e_InvalidForm : PySem.W.exmOne K (.ref c_InvalidForm) (.ref c_InvalidForm) = some true
  c_InvalidLane : Addr
  m_InvalidLane : mg "InvalidLane" = some (.ref c_InvalidLane)
  a_InvalidLane___init__ : Addr
  d_InvalidLane___init__ : FuncData
  F_InvalidLane___init__ : Fun K "__init__" "InvalidLane.__init__" s_InvalidLane___init__ a_InvalidLane___init__ d_InvalidLane___init__
  b_InvalidLane___init__ : Binds K d_InvalidLane___init__ ["self", "word"] []
  k_InvalidLane___init__ : PySem.W.keepIn K (.ref a_InvalidLane___init__) = true
  x_InvalidLane : OexC K c_InvalidLane
  X_InvalidLane : ExX K c_InvalidLane
  f_InvalidLane : XfC K c_InvalidLane
  n_InvalidLane : PySem.W.findIn K (.ref c_InvalidLane) "word" = some none
  i_InvalidLane : PySem.W.findIn K (.ref c_InvalidLane) "__init__" = some (some (.ref a_InvalidLane___init__))
  t_InvalidLane : PySem.W.typeIn K (.ref a_InvalidLane___init__) = some (.type "function")
  e_InvalidLane : PySem.W.exmOne K (.ref c_InvalidLane) (.ref c_InvalidLane) = some true
  c_InvalidBlock : Addr
  m_InvalidBlock : mg "InvalidBlock" = some (.ref c_InvalidBlock)
  a_InvalidBlock___init__ : Addr
  d_InvalidBlock___init__ : FuncData
  F_InvalidBlock___init__ : Fun K "__init__" "InvalidBlock.__init__" s_InvalidBlock___init__ a_InvalidBlock___init__ d_InvalidBlock___init__
  b_InvalidBlock___init__ : Binds K d_InvalidBlock___init__ ["self", "word"] []
  k_InvalidBlock___init__ : PySem.W.keepIn K (.ref a_InvalidBlock___init__) = true
  x_InvalidBlock : OexC K c_InvalidBlock
  X_InvalidBlock : ExX K c_InvalidBlock
  f_InvalidBlock : XfC K c_InvalidBlock
  n_InvalidBlock : PySem.W.findIn K (.ref c_InvalidBlock) "word" = some none
  i_InvalidBlock : PySem.W.findIn K (.ref c_InvalidBlock) "__init__" = some (some (.ref a_InvalidBlock___init__))
  t_InvalidBlock : PySem.W.typeIn K (.ref a_InvalidBlock___init__) = some (.type "function")
  e_InvalidBlock : PySem.W.exmOne K (.ref c_InvalidBlock) (.ref c_InvalidBlock) = some true
  c_InvalidPlan : Addr
  m_InvalidPlan : mg "InvalidPlan" = some (.ref c_InvalidPlan)
  c_InvalidText : Addr
  m_InvalidText : mg "InvalidText" = some (.ref c_InvalidText)
  a_InvalidText___init__ : Addr
  d_InvalidText___init__ : FuncData
  F_InvalidText___init__ : Fun K "__init__" "InvalidText.__init__" s_InvalidText___init__ a_InvalidText___init__ d_InvalidText___init__
  b_InvalidText___init__ : Binds K d_InvalidText___init__ ["self", "at"] []
  k_InvalidText___init__ : PySem.W.keepIn K (.ref a_InvalidText___init__) = true
  x_InvalidText : OexC K c_InvalidText
  X_InvalidText : ExX K c_InvalidText
  f_InvalidText : XfC K c_InvalidText
  n_InvalidText : PySem.W.findIn K (.ref c_InvalidText) "at" = some none
  i_InvalidText : PySem.W.findIn K (.ref c_InvalidText) "__init__" = some (some (.ref a_InvalidText___init__))
  t_InvalidText : PySem.W.typeIn K (.ref a_InvalidText___init__) = some (.type "function")
  e_InvalidText : PySem.W.exmOne K (.ref c_InvalidText) (.ref c_InvalidText) = some true
  c_Form : Addr
  m_Form : mg "Form" = some (.ref c_Form)
  C_Form : Cls K c_Form
  n_Form_times : NoAttr K c_Form "times"
  n_Form_plus : NoAttr K c_Form "plus"
  n_Form_by : NoAttr K c_Form "by"
  F_Form : FmtO K c_Form
  I_Form : OwnI K c_Form
  N_Form : OwnN K c_Form
  a_Form___init__ : Addr
  d_Form___init__ : FuncData
  F_Form___init__ : FunD K "__init__" "Form.__init__" (defArgs s_Form___init__) (defBody s_Form___init__) (defScope s_Form___init__) [(.int 0), (.int 0), (.int 1)] [] a_Form___init__ d_Form___init__
  b_Form___init__ : Binds K d_Form___init__ ["self", "times", "plus", "by"] []
  k_Form___init__ : PySem.W.keepIn K (.ref a_Form___init__) = true
  D_Form___init__ : ∃ ds, Vals [.int 0, .int 0, .int 1] ds ∧ Binds K d_Form___init__ ["self", "times", "plus", "by"] ds
  D1_Form___init__ : ∃ ds, Vals [.int 0, .int 1] ds ∧ Binds K d_Form___init__ ["self", "times", "plus", "by"] ds
  D2_Form___init__ : ∃ ds, Vals [.int 1] ds ∧ Binds K d_Form___init__ ["self", "times", "plus", "by"] ds
  M_Form : Mk K c_Form a_Form___init__
  a_Form___eq__ : Addr
  d_Form___eq__ : FuncData
  F_Form___eq__ : Fun K "__eq__" "Form.__eq__" s_Form___eq__ a_Form___eq__ d_Form___eq__
  b_Form___eq__ : Binds K d_Form___eq__ ["self", "other"] []
  k_Form___eq__ : PySem.W.keepIn K (.ref a_Form___eq__) = true
  O_Form : OwnQ K c_Form a_Form___eq__
  a_Form___str__ : Addr
  d_Form___str__ : FuncData
  F_Form___str__ : Fun K "__str__" "Form.__str__" s_Form___str__ a_Form___str__ d_Form___str__
  b_Form___str__ : Binds K d_Form___str__ ["self"] []
  k_Form___str__ : PySem.W.keepIn K (.ref a_Form___str__) = true
  M_Form___str__ : Meth K c_Form "__str__" a_Form___str__
  a_Form_read : Addr
  d_Form_read : FuncData
  F_Form_read : Fun K "read" "Form.read" s_Form_read a_Form_read d_Form_read
  b_Form_read : Binds K d_Form_read ["cls", "text"] []
  k_Form_read : PySem.W.keepIn K (.ref a_Form_read) = true
  R_Form : ClX.CRead K c_Form (.type "type")
  p_Form_read : Addr
  G_Form_read : ClX.CMet K c_Form (.type "type") "read" p_Form_read a_Form_read
  c_Lane : Addr
  m_Lane : mg "Lane" = some (.ref c_Lane)
  C_Lane : Cls K c_Lane
  n_Lane_way : NoAttr K c_Lane "way"
  n_Lane_sign : NoAttr K c_Lane "sign"
  n_Lane_shift : NoAttr K c_Lane "shift"
  n_Lane_deed : NoAttr K c_Lane "deed"
  I_Lane : OwnI K c_Lane
  N_Lane : OwnN K c_Lane
  a_Lane___init__ : Addr
  d_Lane___init__ : FuncData
  F_Lane___init__ : Fun K "__init__" "Lane.__init__" s_Lane___init__ a_Lane___init__ d_Lane___init__
  b_Lane___init__ : Binds K d_Lane___init__ ["self", "way", "sign", "shift", "deed"] []
  k_Lane___init__ : PySem.W.keepIn K (.ref a_Lane___init__) = true
  M_Lane : Mk K c_Lane a_Lane___init__
  a_Lane___eq__ : Addr
  d_Lane___eq__ : FuncData
  F_Lane___eq__ : Fun K "__eq__" "Lane.__eq__" s_Lane___eq__ a_Lane___eq__ d_Lane___eq__
  b_Lane___eq__ : Binds K d_Lane___eq__ ["self", "other"] []
  k_Lane___eq__ : PySem.W.keepIn K (.ref a_Lane___eq__) = true
  O_Lane : OwnQ K c_Lane a_Lane___eq__
  a_Lane___str__ : Addr
  d_Lane___str__ : FuncData
  F_Lane___str__ : Fun K "__str__" "Lane.__str__" s_Lane___str__ a_Lane___str__ d_Lane___str__
  b_Lane___str__ : Binds K d_Lane___str__ ["self"] []
  k_Lane___str__ : PySem.W.keepIn K (.ref a_Lane___str__) = true
  M_Lane___str__ : Meth K c_Lane "__str__" a_Lane___str__
  c_Block : Addr
  m_Block : mg "Block" = some (.ref c_Block)
  C_Block : Cls K c_Block
  n_Block_rounds : NoAttr K c_Block "rounds"
  n_Block_lanes : NoAttr K c_Block "lanes"
  I_Block : OwnI K c_Block
  N_Block : OwnN K c_Block
  a_Block___init__ : Addr
  d_Block___init__ : FuncData
  F_Block___init__ : Fun K "__init__" "Block.__init__" s_Block___init__ a_Block___init__ d_Block___init__
  b_Block___init__ : Binds K d_Block___init__ ["self", "rounds", "lanes"] []
  k_Block___init__ : PySem.W.keepIn K (.ref a_Block___init__) = true
  M_Block : Mk K c_Block a_Block___init__
  a_Block___eq__ : Addr
  d_Block___eq__ : FuncData
  F_Block___eq__ : Fun K "__eq__" "Block.__eq__" s_Block___eq__ a_Block___eq__ d_Block___eq__
  b_Block___eq__ : Binds K d_Block___eq__ ["self", "other"] []
  k_Block___eq__ : PySem.W.keepIn K (.ref a_Block___eq__) = true
  O_Block : OwnQ K c_Block a_Block___eq__
  a_Block___str__ : Addr
  d_Block___str__ : FuncData
  F_Block___str__ : Fun K "__str__" "Block.__str__" s_Block___str__ a_Block___str__ d_Block___str__
  b_Block___str__ : Binds K d_Block___str__ ["self"] []
  k_Block___str__ : PySem.W.keepIn K (.ref a_Block___str__) = true
  M_Block___str__ : Meth K c_Block "__str__" a_Block___str__
  c_Plan : Addr
  m_Plan : mg "Plan" = some (.ref c_Plan)
  C_Plan : Cls K c_Plan
  n_Plan_blocks : NoAttr K c_Plan "blocks"
  n_Plan_found : NoAttr K c_Plan "found"
  I_Plan : OwnI K c_Plan
  N_Plan : OwnN K c_Plan
  e_Plan___init___0 : Addr
  a_Plan___init__ : Addr
  d_Plan___init__ : FuncData
  F_Plan___init__ : FunD K "__init__" "Plan.__init__" (defArgs s_Plan___init__) (defBody s_Plan___init__) (defScope s_Plan___init__) [(.ref e_Plan___init___0)] [] a_Plan___init__ d_Plan___init__
  b_Plan___init__ : Binds K d_Plan___init__ ["self", "blocks"] []
  k_Plan___init__ : PySem.W.keepIn K (.ref a_Plan___init__) = true
  D_Plan___init__ : ∃ ds, Vals [.ref e_Plan___init___0] ds ∧ Binds K d_Plan___init__ ["self", "blocks"] ds
  E_Plan___init___0 : ∀ H, SqT K H e_Plan___init___0 []
  M_Plan : Mk K c_Plan a_Plan___init__
  a_Plan___eq__ : Addr
  d_Plan___eq__ : FuncData
  F_Plan___eq__ : Fun K "__eq__" "Plan.__eq__" s_Plan___eq__ a_Plan___eq__ d_Plan___eq__
  b_Plan___eq__ : Binds K d_Plan___eq__ ["self", "other"] []
  k_Plan___eq__ : PySem.W.keepIn K (.ref a_Plan___eq__) = true
  O_Plan : OwnQ K c_Plan a_Plan___eq__
  a_Plan___str__ : Addr
  d_Plan___str__ : FuncData
  F_Plan___str__ : Fun K "__str__" "Plan.__str__" s_Plan___str__ a_Plan___str__ d_Plan___str__
  b_Plan___str__ : Binds K d_Plan___str__ ["self"] []
  k_Plan___str__ : PySem.W.keepIn K (.ref a_Plan___str__) = true
  M_Plan___str__ : Meth K c_Plan "__str__" a_Plan___str__
  a_Plan_read : Addr
  d_Plan_read : FuncData
  F_Plan_read : Fun K "read" "Plan.read" s_Plan_read a_Plan_read d_Plan_read
  b_Plan_read : Binds K d_Plan_read ["cls", "text"] []
  k_Plan_read : PySem.W.keepIn K (.ref a_Plan_read) = true
  R_Plan : ClX.CRead K c_Plan (.type "type")
  p_Plan_read : Addr
  G_Plan_read : ClX.CMet K c_Plan (.type "type") "read" p_Plan_read a_Plan_read
  kit_InvalidText_RingError : PySem.W.kitOne K (.ref c_InvalidText) (.ref c_RingError) = some true
  kit_InvalidText_InvalidForm : PySem.W.kitOne K (.ref c_InvalidText) (.ref c_InvalidForm) = some false
  kit_InvalidText_InvalidPlan : PySem.W.kitOne K (.ref c_InvalidText) (.ref c_InvalidPlan) = some false
  kit_InvalidText_InvalidLane : PySem.W.kitOne K (.ref c_InvalidText) (.ref c_InvalidLane) = some false
  kit_InvalidLane_InvalidText : PySem.W.kitOne K (.ref c_InvalidLane) (.ref c_InvalidText) = some false
  kit_Lane_Form : PySem.W.kitOne K (.ref c_Lane) (.ref c_Form) = some false
  kit_Block_Lane : PySem.W.kitOne K (.ref c_Block) (.ref c_Lane) = some false
  A_WAYS : Addr
  m_WAYS : mg "WAYS" = some (.ref A_WAYS)
  s_WAYS : ∀ H, SqT K H A_WAYS [.str "up", .str "down"]
  A_SIGNS : Addr
  m_SIGNS : mg "SIGNS" = some (.ref A_SIGNS)
  s_SIGNS : ∀ H, SqT K H A_SIGNS [.str "+", .str "-"]
  A_DEEDS : Addr
  m_DEEDS : mg "DEEDS" = some (.ref A_DEEDS)
  s_DEEDS : ∀ H, SqT K H A_DEEDS [.str "add", .str "put"]
  a_is_whole : Addr
  d_is_whole : FuncData
  F_is_whole : Fun K "is_whole" "is_whole" s_is_whole a_is_whole d_is_whole
  b_is_whole : Binds K d_is_whole ["value"] []
  k_is_whole : PySem.W.keepIn K (.ref a_is_whole) = true
  m_is_whole : mg "is_whole" = some (.ref a_is_whole)
  a_is_sequence : Addr
  d_is_sequence : FuncData
  F_is_sequence : Fun K "is_sequence" "is_sequence" s_is_sequence a_is_sequence d_is_sequence
  b_is_sequence : Binds K d_is_sequence ["value"] []
  k_is_sequence : PySem.W.keepIn K (.ref a_is_sequence) = true
  m_is_sequence : mg "is_sequence" = some (.ref a_is_sequence)
  a_whole_in : Addr
  d_whole_in : FuncData
  F_whole_in : Fun K "whole_in" "whole_in" s_whole_in a_whole_in d_whole_in
  b_whole_in : Binds K d_whole_in ["word"] []
  k_whole_in : PySem.W.keepIn K (.ref a_whole_in) = true
  m_whole_in : mg "whole_in" = some (.ref a_whole_in)
  a__text : Addr
  d__text : FuncData
  F__text : Fun K "_text" "_text" s__text a__text d__text
  b__text : Binds K d__text ["times", "plus", "by"] []
  k__text : PySem.W.keepIn K (.ref a__text) = true
  m__text : mg "_text" = some (.ref a__text)
  a__upper : Addr
  d__upper : FuncData
  F__upper : Fun K "_upper" "_upper" s__upper a__upper d__upper
  b__upper : Binds K d__upper ["times", "plus"] []
  k__upper : PySem.W.keepIn K (.ref a__upper) = true
  m__upper : mg "_upper" = some (.ref a__upper)
  a__parts : Addr
  d__parts : FuncData
  F__parts : Fun K "_parts" "_parts" s__parts a__parts d__parts
  b__parts : Binds K d__parts ["text"] []
  k__parts : PySem.W.keepIn K (.ref a__parts) = true
  m__parts : mg "_parts" = some (.ref a__parts)
  a__upper_parts : Addr
  d__upper_parts : FuncData
  F__upper_parts : Fun K "_upper_parts" "_upper_parts" s__upper_parts a__upper_parts d__upper_parts
  b__upper_parts : Binds K d__upper_parts ["upper"] []
  k__upper_parts : PySem.W.keepIn K (.ref a__upper_parts) = true
  m__upper_parts : mg "_upper_parts" = some (.ref a__upper_parts)
  a__factor : Addr
  d__factor : FuncData
  F__factor : Fun K "_factor" "_factor" s__factor a__factor d__factor
  b__factor : Binds K d__factor ["word"] []
  k__factor : PySem.W.keepIn K (.ref a__factor) = true
  m__factor : mg "_factor" = some (.ref a__factor)
  a__blocks_in : Addr
  d__blocks_in : FuncData
  F__blocks_in : Fun K "_blocks_in" "_blocks_in" s__blocks_in a__blocks_in d__blocks_in
  b__blocks_in : Binds K d__blocks_in ["lines"] []
  k__blocks_in : PySem.W.keepIn K (.ref a__blocks_in) = true
  m__blocks_in : mg "_blocks_in" = some (.ref a__blocks_in)
  a__rounds_in : Addr
  d__rounds_in : FuncData
  F__rounds_in : Fun K "_rounds_in" "_rounds_in" s__rounds_in a__rounds_in d__rounds_in
  b__rounds_in : Binds K d__rounds_in ["line"] []
  k__rounds_in : PySem.W.keepIn K (.ref a__rounds_in) = true
  m__rounds_in : mg "_rounds_in" = some (.ref a__rounds_in)
  a__lane_in : Addr
  d__lane_in : FuncData
  F__lane_in : Fun K "_lane_in" "_lane_in" s__lane_in a__lane_in d__lane_in
  b__lane_in : Binds K d__lane_in ["line"] []
  k__lane_in : PySem.W.keepIn K (.ref a__lane_in) = true
  m__lane_in : mg "_lane_in" = some (.ref a__lane_in)
  a__law_box : Addr
  d__law_box : FuncData
  F__law_box : Fun K "_law_box" "_law_box" s__law_box a__law_box d__law_box
  b__law_box : Binds K d__law_box ["_law_script", "_law_k"] []
  k__law_box : PySem.W.keepIn K (.ref a__law_box) = true
  m__law_box : mg "_law_box" = some (.ref a__law_box)
  a__law_take : Addr
  d__law_take : FuncData
  F__law_take : Fun K "_law_take" "_law_take" s__law_take a__law_take d__law_take
  b__law_take : Binds K d__law_take ["_law_box_here", "_law_many"] []
  k__law_take : PySem.W.keepIn K (.ref a__law_take) = true
  m__law_take : mg "_law_take" = some (.ref a__law_take)
  a__law_pick : Addr
  d__law_pick : FuncData
  F__law_pick : Fun K "_law_pick" "_law_pick" s__law_pick a__law_pick d__law_pick
  b__law_pick : Binds K d__law_pick ["_law_box_here", "_law_some"] []
  k__law_pick : PySem.W.keepIn K (.ref a__law_pick) = true
  m__law_pick : mg "_law_pick" = some (.ref a__law_pick)
  a__law_form : Addr
  d__law_form : FuncData
  F__law_form : Fun K "_law_form" "_law_form" s__law_form a__law_form d__law_form
  b__law_form : Binds K d__law_form ["_law_box_here", "_law_far"] []
  k__law_form : PySem.W.keepIn K (.ref a__law_form) = true
  m__law_form : mg "_law_form" = some (.ref a__law_form)
  a__law_form_text : Addr
  d__law_form_text : FuncData
  F__law_form_text : Fun K "_law_form_text" "_law_form_text" s__law_form_text a__law_form_text d__law_form_text
  b__law_form_text : Binds K d__law_form_text ["_law_form_here"] []
  k__law_form_text : PySem.W.keepIn K (.ref a__law_form_text) = true
  m__law_form_text : mg "_law_form_text" = some (.ref a__law_form_text)
  a__law_lane : Addr
  d__law_lane : FuncData
  F__law_lane : Fun K "_law_lane" "_law_lane" s__law_lane a__law_lane d__law_lane
  b__law_lane : Binds K d__law_lane ["_law_box_here", "_law_far"] []
  k__law_lane : PySem.W.keepIn K (.ref a__law_lane) = true
  m__law_lane : mg "_law_lane" = some (.ref a__law_lane)
  a__law_block : Addr
  d__law_block : FuncData
  F__law_block : Fun K "_law_block" "_law_block" s__law_block a__law_block d__law_block
  b__law_block : Binds K d__law_block ["_law_box_here", "_law_lanes", "_law_far"] []
  k__law_block : PySem.W.keepIn K (.ref a__law_block) = true
  m__law_block : mg "_law_block" = some (.ref a__law_block)
  a__law_known_plan : Addr
  d__law_known_plan : FuncData
  F__law_known_plan : Fun K "_law_known_plan" "_law_known_plan" s__law_known_plan a__law_known_plan d__law_known_plan
  b__law_known_plan : Binds K d__law_known_plan ["_law_box_here"] []
  k__law_known_plan : PySem.W.keepIn K (.ref a__law_known_plan) = true
  m__law_known_plan : mg "_law_known_plan" = some (.ref a__law_known_plan)
  a__law_plan : Addr
  d__law_plan : FuncData
  F__law_plan : Fun K "_law_plan" "_law_plan" s__law_plan a__law_plan d__law_plan
  b__law_plan : Binds K d__law_plan ["_law_box_here", "_law_blocks", "_law_lanes", "_law_far"] []
  k__law_plan : PySem.W.keepIn K (.ref a__law_plan) = true
  m__law_plan : mg "_law_plan" = some (.ref a__law_plan)
  a__law_lane_text : Addr
  d__law_lane_text : FuncData
  F__law_lane_text : Fun K "_law_lane_text" "_law_lane_text" s__law_lane_text a__law_lane_text d__law_lane_text
  b__law_lane_text : Binds K d__law_lane_text ["_law_lane_here"] []
  k__law_lane_text : PySem.W.keepIn K (.ref a__law_lane_text) = true
  m__law_lane_text : mg "_law_lane_text" = some (.ref a__law_lane_text)
  a__law_plan_text : Addr
  d__law_plan_text : FuncData
  F__law_plan_text : Fun K "_law_plan_text" "_law_plan_text" s__law_plan_text a__law_plan_text d__law_plan_text
  b__law_plan_text : Binds K d__law_plan_text ["_law_plan_here"] []
  k__law_plan_text : PySem.W.keepIn K (.ref a__law_plan_text) = true
  m__law_plan_text : mg "_law_plan_text" = some (.ref a__law_plan_text)
  a__law_lane_of : Addr
  d__law_lane_of : FuncData
  F__law_lane_of : Fun K "_law_lane_of" "_law_lane_of" s__law_lane_of a__law_lane_of d__law_lane_of
  b__law_lane_of : Binds K d__law_lane_of ["_law_lane_here"] []
  k__law_lane_of : PySem.W.keepIn K (.ref a__law_lane_of) = true
  m__law_lane_of : mg "_law_lane_of" = some (.ref a__law_lane_of)
  a__law_plan_of : Addr
  d__law_plan_of : FuncData
  F__law_plan_of : Fun K "_law_plan_of" "_law_plan_of" s__law_plan_of a__law_plan_of d__law_plan_of
  b__law_plan_of : Binds K d__law_plan_of ["_law_plan_here"] []
  k__law_plan_of : PySem.W.keepIn K (.ref a__law_plan_of) = true
  m__law_plan_of : mg "_law_plan_of" = some (.ref a__law_plan_of)
  a__law_has_form : Addr
  d__law_has_form : FuncData
  F__law_has_form : Fun K "_law_has_form" "_law_has_form" s__law_has_form a__law_has_form d__law_has_form
  b__law_has_form : Binds K d__law_has_form ["_law_word"] []
  k__law_has_form : PySem.W.keepIn K (.ref a__law_has_form) = true
  m__law_has_form : mg "_law_has_form" = some (.ref a__law_has_form)
  a__law_sort : Addr
  d__law_sort : FuncData
  F__law_sort : Fun K "_law_sort" "_law_sort" s__law_sort a__law_sort d__law_sort
  b__law_sort : Binds K d__law_sort ["_law_line"] []
  k__law_sort : PySem.W.keepIn K (.ref a__law_sort) = true
  m__law_sort : mg "_law_sort" = some (.ref a__law_sort)
  a__law_due : Addr
  d__law_due : FuncData
  F__law_due : Fun K "_law_due" "_law_due" s__law_due a__law_due d__law_due
  b__law_due : Binds K d__law_due ["_law_text"] []
  k__law_due : PySem.W.keepIn K (.ref a__law_due) = true
  m__law_due : mg "_law_due" = some (.ref a__law_due)
  a__law_bent : Addr
  d__law_bent : FuncData
  F__law_bent : Fun K "_law_bent" "_law_bent" s__law_bent a__law_bent d__law_bent
  b__law_bent : Binds K d__law_bent ["_law_box_here", "_law_text"] []
  k__law_bent : PySem.W.keepIn K (.ref a__law_bent) = true
  m__law_bent : mg "_law_bent" = some (.ref a__law_bent)
  a__law_read : Addr
  d__law_read : FuncData
  F__law_read : Fun K "_law_read" "_law_read" s__law_read a__law_read d__law_read
  b__law_read : Binds K d__law_read ["_law_text"] []
  k__law_read : PySem.W.keepIn K (.ref a__law_read) = true
  m__law_read : mg "_law_read" = some (.ref a__law_read)
  a_law : Addr
  d_law : FuncData
  F_law : Fun K "law" "law" s_law a_law d_law
  b_law : Binds K d_law ["_law_script"] []
  k_law : PySem.W.keepIn K (.ref a_law) = true
  m_law : mg "law" = some (.ref a_law)
  z_abs : mg "abs" = none
  z_all : mg "all" = none
  z_bool : mg "bool" = none
  z_enumerate : mg "enumerate" = none
  z_int : mg "int" = none
  z_isinstance : mg "isinstance" = none
  z_len : mg "len" = none
  z_list : mg "list" = none
  z_max : mg "max" = none
  z_min : mg "min" = none
  z_range : mg "range" = none
  z_repr : mg "repr" = none
  z_str : mg "str" = none
  z_tuple : mg "tuple" = none
section
variable {P : Program} {w : World} {K : PySem.W.Frag} {mg : Str → Option Value} {base : Heap}
def spTake : Sp := fun vs H Q _ => ∃ (b : Addr) (m : Int), vs = [.ref b, .int m] ∧ Box H b ∧ 0 < m ∧ m < 2 ^ 40 ∧
  ∀ (r : Int) (H' : Hp), 0 ≤ r → r < m → Box H' b → But b H H' → Q (.int r) H'
theorem ok_take (T : Txt K mg) : FnOk P w K mg base CX0 1 T.a__law_take T.d__law_take ["_law_box_here", "_law_many"] spTake := by
  refine T.F__law_take.ok sc__law_take (fun vs H Q E h => ?_) (fun cdv A outer s H vs Q E hr h => ?_)
  · obtain ⟨b, m, rfl, _⟩ := h
    rfl
  · obtain ⟨b, m, rfl, ⟨x, y, z, hb, ⟨x0, y1, y2⟩⟩, m0, m1, k⟩ := h
    have nd := sc__law_take.nd
    refine ⟨_, (pss_cons (ps_if (pt_cmpR op_gt (pe_ix ix_list (pv 0) pe_int (fun _ _ => rfl)) pe_int (nomark _)) (pss_cons (ps_set (i := 2) nd rfl (Or.inl rfl) (pe_op op_mod (pe_callTy call_int1 (by rfl) T.z_int (by decide +kernel) (pa_cons (pe_ix ix_list (pv 0) pe_int (fun _ _ => rfl)) pa_nil)) (pv 1)))
    (pss_cons (ps_asg (pe_op op_fdivW (pe_ix ix_list (pv 0) pe_int (fun _ _ => rfl)) (pv 1)) (pg_sub (pv 0) pe_int set_list))
    (pss_one (ps_ret (pv 2))))) pss_nil)
    (pss_cons (ps_asg (pe_op op_add (pe_ix ix_list (pv 0) pe_int (fun _ _ => rfl)) pe_int) (pg_sub (pv 0) pe_int set_list))
    (pss_cons (ps_set (i := 3) nd rfl (Or.inl rfl) (pe_op op_mod (pe_callTy call_int1 (by rfl) T.z_int (by decide +kernel) (pa_cons (pe_op op_mul (pe_op op_add (pe_ix ix_list (pv 0) pe_int (fun _ _ => rfl)) (pe_op op_mul pe_int (pe_ix ix_list (pv 0) pe_int (fun _ _ => rfl)))) pe_int) pa_nil)) pe_int))
    (pss_cons (ps_asg (pe_op op_add (pe_op op_mod (pe_callTy call_int1 (by rfl) T.z_int (by decide +kernel) (pa_cons (pe_op op_add (pe_op op_mul (pv 3) pe_int) pe_int) pa_nil)) pe_int) pe_int) (pg_sub (pv 0) pe_int set_list))
    (pss_one (ps_ret (pe_op op_mod (pe_callTy call_int1 (by rfl) T.z_int (by decide +kernel) (pa_cons (pe_op op_fdiv (pe_op op_add (pe_op op_mul (pv 3) pe_int) (pe_ix ix_list (pv 0) pe_int (fun _ _ => rfl))) pe_int) pa_nil)) (pv 1)))))))), ?_⟩
    repeat walk_at "st"
    refine ifB (fun e => ?_) (fun e => ?_)
    · repeat walk_at "st"
      exact k _ _ (Int.emod_nonneg _ (by omega)) (Int.emod_lt_of_pos _ m0) ⟨x / m, y, z, upd_same, Int.ediv_nonneg x0 (by omega), y1, y2⟩ (But.refl _ _).upd
    · repeat walk_at "st"
      exact k _ _ (Int.emod_nonneg _ (by omega)) (Int.emod_lt_of_pos _ m0) ⟨_, _, _, upd_same, x0, by omega, by omega⟩ (((But.refl _ _).upd).upd)
local macro_rules | `(tactic| walk_at "boxtail") => `(tactic| (
  repeat walk_at "st"
  refine ifB (fun e9 => ?_) (fun e9 => ?_)))
/-- the box of a cell -/
def spBox (K : PySem.W.Frag) : Sp := fun vs H Q _ => ∃ (a : Addr) (ns : List Int) (i : Int), vs = [.ref a, .int i] ∧ SqL K H a (ns.map V.int) ∧ 0 ≤ i ∧ i < 1000 ∧
  ∀ (H' : Hp) (p : Addr), Same H H' → H p = none → Box H' p → Q (.ref p) H'
theorem ok_box (T : Txt K mg) : FnOk P w K mg base CX0 1 T.a__law_box T.d__law_box ["_law_script", "_law_k"] (spBox K) := by
  refine T.F__law_box.ok sc__law_box (fun vs H Q E h => ?_) (fun cdv A outer s H vs Q E hr h => ?_)
  · obtain ⟨a, ns, i, rfl, _⟩ := h
    rfl
  · obtain ⟨a, ns, i, rfl, hS, i0, i1, k⟩ := h
    have nd := sc__law_box.nd
    refine ⟨_, (pss_cons (ps_set (i := 2) nd rfl (Or.inl rfl) (pe_op op_add (pe_op op_mul pe_int (pv 1)) pe_int))
    (pss_cons (ps_if (pt_cmpR op_lt (pv 1) (pe_callB call_len_seq (by rfl) T.z_len (by decide +kernel) (pa_cons (pv 0) pa_nil)) (nomark _)) (pss_one (ps_set (i := 2) nd rfl (Or.inl rfl) (pe_callB call_abs (by rfl) T.z_abs (by decide +kernel) (pa_cons (pe_callTy call_int1 (by rfl) T.z_int (by decide +kernel) (pa_cons (pe_ix ix_list (pv 0) (pv 1) (fun _ _ => rfl)) pa_nil)) pa_nil)))) (pss_one (ps_if (pt_cmpR op_gt (pe_callB call_len_seq (by rfl) T.z_len (by decide +kernel) (pa_cons (pv 0) pa_nil)) pe_int (nomark _)) (pss_one (ps_set (i := 2) nd rfl (Or.inl rfl) (pe_op op_add (pv 2) (pe_op op_mul (pe_op op_mod (pe_callTy call_int1 (by rfl) T.z_int (by decide +kernel) (pa_cons (pe_ix ix_list (pv 0) (pe_op op_mod (pe_callTy call_int1 (by rfl) T.z_int (by decide +kernel) (pa_cons (pv 1) pa_nil)) (pe_callB call_len_seq (by rfl) T.z_len (by decide +kernel) (pa_cons (pv 0) pa_nil))) (fun _ _ => rfl)) pa_nil)) pe_int) pe_int)))) pss_nil)))
    (pss_cons (ps_set (i := 3) nd rfl (Or.inl rfl) (pe_op op_add (pe_op op_mod (pe_callTy call_int1 (by rfl) T.z_int (by decide +kernel) (pa_cons (pe_op op_add (pe_op op_add (pe_op op_mul (pe_op op_mod (pe_callTy call_int1 (by rfl) T.z_int (by decide +kernel) (pa_cons (pv 2) pa_nil)) pe_int) pe_int) (pe_op op_mul pe_int (pv 1))) pe_int) pa_nil)) pe_int) pe_int))
    (pss_cons (ps_set (i := 4) nd rfl (Or.inl rfl) (pe_ifExp (pt_cmpR op_ge (pv 2) (pe_op op_pow pe_int pe_int) (nomark _)) (pv 2) pe_int))
    (pss_one (ps_ret (pe_lst (pa_cons (pv 4) (pa_cons (pv 3) (pa_cons pe_int pa_nil)))))))))), ?_⟩
    repeat walk_at "st"
    refine ifB (fun e => ?_) (fun e => ?_)
    · have e := of_decide_eq_true e
      rw [List.length_map] at e
      obtain ⟨z, hz⟩ := ints_at i0 e
      refine ⟨_, rfl, _, rfl, _, _, _, _, rfl, rfl, hS, hz, ?_⟩
      have c0 := natAbs_abs (i := z)
      walk_at "boxtail"
      all_goals
        repeat walk_at "st"
        refine ⟨szL (Nat.le_of_ble_eq_true rfl), fun q hq => ?_⟩
        exact k _ _ (same_new (by assumption)) (by assumption) ⟨_, _, _, upd_same, by first | exact c0 | decide, by walk_at "om", by walk_at "om"⟩
    · repeat walk_at "st"
      refine ifB (fun e1 => ?_) (fun e1 => ?_)
      · have e1 := of_decide_eq_true e1
        repeat walk_at "st"
        rw [List.length_map] at e1
        obtain ⟨z, hz⟩ := ints_at (ns := ns) (k := i % ((ns.map V.int).length : Nat)) (Int.emod_nonneg _ (by rw [List.length_map]; omega)) (by rw [List.length_map]; exact Int.emod_lt_of_pos _ (by omega))
        refine ⟨_, _, _, _, rfl, rfl, hS, hz, ?_⟩
        walk_at "boxtail"
        all_goals
          repeat walk_at "st"
          refine ⟨szL (Nat.le_of_ble_eq_true rfl), fun q hq => ?_⟩
          exact k _ _ (same_new (by assumption)) (by assumption) ⟨_, _, _, upd_same, by walk_at "om", by walk_at "om", by walk_at "om"⟩
      · walk_at "boxtail"
        all_goals
          repeat walk_at "st"
          refine ⟨szL (Nat.le_of_ble_eq_true rfl), fun q hq => ?_⟩
          exact k _ _ (same_new (by assumption)) (by assumption) ⟨_, _, _, upd_same, by walk_at "om", by walk_at "om", by walk_at "om"⟩

/-- one of the items of a list -/
def spPick : Sp := fun vs H Q _ => ∃ (b L : Addr) (xs : List V), vs = [.ref b, .ref L] ∧ Box H b ∧ L ≠ b ∧ H L = some (.lst xs) ∧ 0 < xs.length ∧ xs.length < 1000 ∧
  ∀ (v : V) (H' : Hp), v ∈ xs → Box H' b → But b H H' → Q v H'
theorem ok_pick (T : Txt K mg) : FnOk P w K mg base CX0 2 T.a__law_pick T.d__law_pick ["_law_box_here", "_law_some"] spPick := by
  have G__law_take : FnOk P w K mg base CX0 1 T.a__law_take T.d__law_take ["_law_box_here", "_law_many"] spTake := ok_take T
  refine T.F__law_pick.ok sc__law_pick (fun vs H Q E h => ?_) (fun cdv A outer s H vs Q E hr h => ?_)
  · obtain ⟨b, L, xs, rfl, _⟩ := h
    rfl
  · obtain ⟨b, L, xs, rfl, hB, hne, hL, l0, l1, k⟩ := h
    have nd := sc__law_pick.nd
    refine ⟨_, (pss_one (ps_ret (pe_ix ix_list (pv 1) (pe_call G__law_take (hr.mono (by first | decide | omega)) (by rfl) T.m__law_take T.k__law_take T.b__law_take .nil pass0 (pa_cons (pv 0) (pa_cons (pe_callB call_len_seq (by rfl) T.z_len (by decide +kernel) (pa_cons (pv 1) pa_nil)) pa_nil))) (fun _ _ => rfl)))), ?_⟩
    repeat walk_at "st"
    refine ⟨b, _, rfl, hB, by omega, by omega, fun r H' r0 r1 B' k' => ?_⟩
    obtain ⟨v, hv, hz⟩ := mem_at r0 r1
    exact ⟨_, _, _, _, rfl, rfl, SqL.of (k' _ _ hne hL), hz, k v H' hv B' k'⟩

/-- a drawn form's arguments -/
def spForm : Sp := fun vs H Q _ => ∃ (b : Addr) (far : Int), vs = [.ref b, .int far] ∧ Box H b ∧ 2 ≤ far ∧ far ≤ 1000 ∧
  ∀ (p : Addr) (t q c : Int) (H' : Hp), -far ≤ t → t ≤ far → -far ≤ q → q ≤ far → 1 ≤ c → c ≤ 3 → p ≠ b → H' p = some (.tup [.int t, .int q, .int c]) → Box H' b → But b H H' → Q (.ref p) H'
theorem ok_form (T : Txt K mg) : FnOk P w K mg base CX0 3 T.a__law_form T.d__law_form ["_law_box_here", "_law_far"] spForm := by
  have G__law_take : FnOk P w K mg base CX0 1 T.a__law_take T.d__law_take ["_law_box_here", "_law_many"] spTake := ok_take T
  have G__law_pick : FnOk P w K mg base CX0 2 T.a__law_pick T.d__law_pick ["_law_box_here", "_law_some"] spPick := ok_pick T
  refine T.F__law_form.ok sc__law_form (fun vs H Q E h => ?_) (fun cdv A outer s H vs Q E hr h => ?_)
  · obtain ⟨b, far, rfl, _⟩ := h
    rfl
  · obtain ⟨b, far, rfl, hB, f0, f1, k⟩ := h
    have nd := sc__law_form.nd
    refine ⟨_, (pss_cons (ps_set (i := 2) nd rfl (Or.inl rfl) (pe_call G__law_pick (hr.mono (by first | decide | omega)) (by rfl) T.m__law_pick T.k__law_pick T.b__law_pick .nil pass0 (pa_cons (pv 0) (pa_cons (pe_lst (pa_cons pe_int (pa_cons pe_int (pa_cons pe_int (pa_cons pe_int (pa_cons pe_int (pa_cons pe_int (pa_cons (pe_op op_sub pe_int pe_int) (pa_cons (pe_op op_sub (pe_call G__law_take (hr.mono (by first | decide | omega)) (by rfl) T.m__law_take T.k__law_take T.b__law_take .nil pass0 (pa_cons (pv 0) (pa_cons (pe_op op_add (pe_op op_mul pe_int (pv 1)) pe_int) pa_nil))) (pv 1)) pa_nil))))))))) pa_nil))))
    (pss_cons (ps_set (i := 3) nd rfl (Or.inl rfl) (pe_call G__law_pick (hr.mono (by first | decide | omega)) (by rfl) T.m__law_pick T.k__law_pick T.b__law_pick .nil pass0 (pa_cons (pv 0) (pa_cons (pe_lst (pa_cons pe_int (pa_cons pe_int (pa_cons (pe_op op_sub pe_int pe_int) (pa_cons pe_int (pa_cons (pe_op op_sub (pe_call G__law_take (hr.mono (by first | decide | omega)) (by rfl) T.m__law_take T.k__law_take T.b__law_take .nil pass0 (pa_cons (pv 0) (pa_cons (pe_op op_add (pe_op op_mul pe_int (pv 1)) pe_int) pa_nil))) (pv 1)) pa_nil)))))) pa_nil))))
    (pss_one (ps_ret (pe_tup (pa_cons (pv 2) (pa_cons (pv 3) (pa_cons (pe_call G__law_pick (hr.mono (by first | decide | omega)) (by rfl) T.m__law_pick T.k__law_pick T.b__law_pick .nil pass0 (pa_cons (pv 0) (pa_cons (pe_lst (pa_cons pe_int (pa_cons pe_int (pa_cons pe_int (pa_cons pe_int (pa_cons pe_int pa_nil)))))) pa_nil))) pa_nil)))))))), ?_⟩
    repeat walk_at "st"
    refine ⟨b, _, rfl, hB, by omega, by omega, fun r1 H1 r10 r11 B1 k1 => ?_⟩
    repeat walk_at "st"
    refine ⟨szL (Nat.le_of_ble_eq_true rfl), fun L1 n1 => ?_⟩
    refine ⟨b, L1, _, rfl, B1.same (same_new n1), B1.ne_none n1, upd_same, by simp, by simp, fun v H2 hv B2 k2 => ?_⟩
    obtain ⟨t, rfl, t0, t1⟩ : ∃ t, v = .int t ∧ -far ≤ t ∧ t ≤ far := by
      simp only [List.mem_cons, List.not_mem_nil, or_false] at hv
      rcases hv with h | h | h | h | h | h | h | h <;> exact ⟨_, h, by walk_at "om", by walk_at "om"⟩
    repeat walk_at "st"
    refine ⟨b, _, rfl, B2, by omega, by omega, fun r2 H3 r20 r21 B3 k3 => ?_⟩
    repeat walk_at "st"
    refine ⟨szL (Nat.le_of_ble_eq_true rfl), fun L2 n2 => ?_⟩
    refine ⟨b, L2, _, rfl, B3.same (same_new n2), B3.ne_none n2, upd_same, by simp, by simp, fun v H4 hv B4 k4 => ?_⟩
    obtain ⟨q, rfl, q0, q1⟩ : ∃ t, v = .int t ∧ -far ≤ t ∧ t ≤ far := by
      simp only [List.mem_cons, List.not_mem_nil, or_false] at hv
      rcases hv with h | h | h | h | h <;> exact ⟨_, h, by walk_at "om", by walk_at "om"⟩
    repeat walk_at "st"
    refine ⟨szL (Nat.le_of_ble_eq_true rfl), fun L3 n3 => ?_⟩
    refine ⟨b, L3, _, rfl, B4.same (same_new n3), B4.ne_none n3, upd_same, by simp, by simp, fun v H5 hv B5 k5 => ?_⟩
    obtain ⟨c, rfl, c0, c1⟩ : ∃ t, v = .int t ∧ 1 ≤ t ∧ t ≤ 3 := by
      simp only [List.mem_cons, List.not_mem_nil, or_false] at hv
      rcases hv with h | h | h | h | h <;> exact ⟨_, h, by walk_at "om", by walk_at "om"⟩
    refine ⟨szL (Nat.le_of_ble_eq_true rfl), fun p np => ?_⟩
    have kk := (((k1.trans (But.of_same (same_new n1))).trans k2).trans ((k3.trans (But.of_same (same_new n2))).trans k4)).trans ((But.of_same (same_new n3)).trans k5)
    exact k p t q c _ t0 t1 q0 q1 c0 c1 (B5.ne_none np) upd_same (B5.same (same_new np)) (kk.trans (But.of_same (same_new np)))

/-! forms made -/
theorem un1 {k : Nat} {A : Around} (r : Room k A) : A.units + 1 < cLine := by
  have := r.un
  omega
def fldF (t q c : Int) : List (Str × V) := putF "by" (.int c) (putF "plus" (.int q) (putF "times" (.int t) []))
def FormO (C : Addr) (H : Hp) (x : Addr) (t q c : Int) : Prop := ∃ dx, H x = some (.ins C dx (fldF t q c))
theorem FormO.fz {C : Addr} {H H' : Hp} {x : Addr} {t q c : Int} (h : FormO C H x t q c) (k : Fz H H') : FormO C H' x t q c := by
  obtain ⟨dx, h⟩ := h
  exact ⟨dx, k _ _ trivial h⟩
theorem ok_whole (T : Txt K mg) : FnOk P w K mg base CX0 1 T.a_is_whole T.d_is_whole ["value"] spWhole := by
  refine T.F_is_whole.ok sc_is_whole (fun vs H Q E h => ?_) (fun cdv A outer s H vs Q E hr h => ?_)
  · obtain ⟨b, v, rfl, _⟩ := h
    rfl
  · obtain ⟨b, v, rfl, hv, k⟩ := h
    have nd := sc_is_whole.nd
    refine ⟨_, (pss_one (ps_ret (pe_and (pe_callB call_isi (by rfl) T.z_isinstance (by decide +kernel) (pa_cons (pv 0) (pa_cons (pe_bltn (v := .ty "int") (u := .type "int") (by rfl) T.z_int (by decide +kernel) (by exact rfl)) pa_nil))) (pe_one (pe_not (pe_callB call_isi (by rfl) T.z_isinstance (by decide +kernel) (pa_cons (pv 0) (pa_cons (pe_bltn (v := .ty "bool") (u := .type "bool") (by rfl) T.z_bool (by decide +kernel) (by exact rfl)) pa_nil)))))))), ?_⟩
    obtain ⟨t, ty, ki, kb⟩ := hv.ty (K := K)
    refine ⟨_, rfl, _, _, _, _, _, rfl, .ty _, ty, kit_ty ki, _, rfl, ifB (fun e => ?_) (fun e => ?_)⟩
    · refine ⟨_, rfl, _, _, _, _, _, rfl, .ty _, ty, kit_ty kb, _, rfl, ?_⟩
      rw [isInt_bl e]
      exact k
    · show Q (.bl false) H
      rw [isInt_no e]
      exact k
def spFormG (C : Addr) : Sp := fun vs H Q _ => ∃ (x dx : Addr) (t q c : Int), vs = [.ref x, .int t, .int q, .int c] ∧ H x = some (.ins C dx []) ∧ 1 ≤ c ∧ Q .non (upd H x (.ins C dx (fldF t q c)))
theorem ok_formG (T : Txt K mg) : FnOk P w K mg base CX0 2 T.a_Form___init__ T.d_Form___init__ ["self", "times", "plus", "by"] (spFormG T.c_Form) := by
  have G_is_whole : FnOk P w K mg base CX0 1 T.a_is_whole T.d_is_whole ["value"] spWhole := ok_whole T
  refine T.F_Form___init__.ok sc_Form___init__ (fun vs H Q E h => ?_) (fun cdv A outer s H vs Q E hr h => ?_)
  · obtain ⟨x, dx, t, q, c, rfl, _⟩ := h
    rfl
  · obtain ⟨x, dx, t, q, c, rfl, hx, hc, kn⟩ := h
    have nd := sc_Form___init__.nd
    refine ⟨_, (pss_cons (ps_if (pt_not (pt_val (pe_call G_is_whole (hr.mono (by first | decide | omega)) (by rfl) T.m_is_whole T.k_is_whole T.b_is_whole .nil pass0 (pa_cons (pv 1) pa_nil)))) (pss_one ps_never) pss_nil)
    (pss_cons (ps_if (pt_not (pt_val (pe_call G_is_whole (hr.mono (by first | decide | omega)) (by rfl) T.m_is_whole T.k_is_whole T.b_is_whole .nil pass0 (pa_cons (pv 2) pa_nil)))) (pss_one ps_never) pss_nil)
    (pss_cons (ps_if (PW.pt (pw_or (pt_not (pt_val (pe_call G_is_whole (hr.mono (by first | decide | omega)) (by rfl) T.m_is_whole T.k_is_whole T.b_is_whole .nil pass0 (pa_cons (pv 3) pa_nil)))) (pw_or1 (pt_cmpR op_lt (pv 3) pe_int (nomark _))))) (pss_one ps_never) pss_nil)
    (pss_cons (ps_fld (pv 0) (pv 1) rfl)
    (pss_cons (ps_fld (pv 0) (pv 2) rfl)
    (pss_one (ps_fld (pv 0) (pv 3) rfl))))))), ?_⟩
    refine ⟨_, rfl, x, _, rfl, trivial, _, rfl, ifF rfl ?_⟩
    refine ⟨_, rfl, x, _, rfl, trivial, _, rfl, ifF rfl ?_⟩
    refine ⟨_, rfl, x, _, rfl, trivial, _, rfl, ifF rfl ?_⟩
    refine ⟨_, rfl, _, _, rfl, rfl, _, rfl, ifF (decide_eq_false (by omega)) ?_⟩
    refine ⟨_, rfl, _, rfl, x, T.c_Form, dx, _, rfl, hx, T.C_Form, T.n_Form_times, by decide, ?_⟩
    refine ⟨_, rfl, _, rfl, x, T.c_Form, dx, _, rfl, upd_same, T.C_Form, T.n_Form_plus, by show 1 < 1000; decide, ?_⟩
    refine ⟨_, rfl, _, rfl, x, T.c_Form, dx, _, rfl, upd_same, T.C_Form, T.n_Form_by, by show 2 < 1000; decide, ?_⟩
    show Q .non _
    rw [upd_upd, upd_upd]
    exact kn
def frontS (t : Int) : Str := if t = 1 then Str.ofString "n" else if t = -1 then Str.ofString "-n" else nS t ++ Str.ofString "n"
def upperS (t q : Int) : Str := if t = 0 then nS q else if q = 0 then frontS t else frontS t ++ plusS q
def formText (t q c : Int) : Str := if c = 1 then upperS t q else Str.ofString "(" ++ (upperS t q ++ (Str.ofString ")/" ++ nS c))
def Mid (n : Int) : Prop := n.natAbs < 10 ^ 18 ∨ n.natAbs < bigN
theorem Mid.big {n : Int} (h : Mid n) : n.natAbs < bigN := h.elim big_small id
theorem bigK_eq : bigK = 400 := rfl
theorem nS_mid {n : Int} (h : Mid n) : (nS n).length ≤ 401 := by
  have e := PySem.int_text_length_le10 (a := n) (k := bigK) (by decide) h.big
  have := bigK_eq
  unfold nS
  rw [PySem.ofString_length]
  omega
theorem front_len {t : Int} (h : Mid t) : (frontS t).length ≤ 402 := by
  unfold frontS
  split
  · decide
  · split
    · decide
    · have := nS_mid h
      have l : (Str.ofString "n").length = 1 := by decide
      rw [Str.length_append]
      omega
theorem upper_len {t q : Int} (h : Mid t) (g : Mid q) : (upperS t q).length ≤ 804 := by
  have a := nS_mid g
  have b := front_len h
  have c := plus_lenB g.big
  unfold upperS
  split
  · omega
  · split
    · omega
    · rw [Str.length_append]
      omega
def spUpper : Sp := fun vs H Q _ => ∃ (t q : Int), vs = [.int t, .int q] ∧ Mid t ∧ Mid q ∧ Q (.str (upperS t q)) H
theorem ok_upper (T : Txt K mg) : FnOk P w K mg base CX0 1 T.a__upper T.d__upper ["times", "plus"] spUpper := by
  refine T.F__upper.ok sc__upper (fun vs H Q E h => ?_) (fun cdv A outer s H vs Q E hr h => ?_)
  · obtain ⟨t, q, rfl, _⟩ := h
    rfl
  · obtain ⟨t, q, rfl, mt, mq, k⟩ := h
    have nd := sc__upper.nd
    refine ⟨_, (pss_cons (ps_if (pt_cmpR op_eq (pv 0) pe_int (nomark _)) (pss_one (ps_ret (pe_joined1 (pe_fmt (pv 1))))) pss_nil)
    (pss_cons (ps_set (i := 2) nd rfl (Or.inl rfl) (pe_joined (.cons (pe_fmt (pv 0)) (.cons pe_str .nil))))
    (pss_cons (ps_if (pt_cmpR op_eq (pv 0) pe_int (nomark _)) (pss_one (ps_set (i := 2) nd rfl (Or.inl rfl) pe_str)) pss_nil)
    (pss_cons (ps_if (pt_cmpR op_eq (pv 0) (pe_un un_neg pe_int) (nomark _)) (pss_one (ps_set (i := 2) nd rfl (Or.inl rfl) pe_str)) pss_nil)
    (pss_one (ps_ret (pe_ifExp (pt_cmpR op_ne (pv 1) pe_int (nomark _)) (pe_joined (.cons (pe_fmt (pv 2)) (.cons (pe_fmtPlusB (pv 1) (pe_joined1 pe_str)) .nil))) (pv 2)))))))), ?_⟩
    have lt := log_big mt.big
    have lq := log_big mq.big
    have b1 := nS_mid mt
    have b2 := nS_mid mq
    have b3 := front_len mt
    have b4 := plus_lenB mq.big
    have e9 := sizeLine_eq
    have w0 : Str.empty.length = 0 := rfl
    have w1 : (Str.ofString "n").length = 1 := by decide
    have b1' : (Str.ofString (toString t)).length ≤ 401 := b1
    refine seqif_go ⟨_, rfl, rfl, _, rfl, ?_⟩
    rw [dec_int]
    refine ifB (fun e => ?_) (fun e => ?_)
    · have e : t = 0 := by simpa using e
      unfold upperS at k
      rw [if_pos e] at k
      exact ⟨_, rfl, .inr ⟨_, rfl, lq, k⟩⟩
    · have e : ¬ t = 0 := by simpa using e
      unfold upperS at k
      rw [if_neg e] at k
      dsimp only [tNext]
      refine ⟨_, rfl, .inr ⟨_, rfl, lt, _, rfl, by simp only [Str.length_append]; omega, _, rfl, by simp only [Str.length_append]; omega, ?_⟩⟩
      dsimp only [gName]
      refine seq_k (fun σ' H' => σ' = [some (.int t), some (.int q), some (.str (if t = 1 then Str.ofString "n" else nS t ++ Str.ofString "n"))] ∧ H' = H) (fun σ' H' hC => ?_) (fun R hR => ⟨_, rfl, rfl, _, rfl, ?_⟩)
      · obtain ⟨rfl, rfl⟩ := hC
        refine seq_k (fun σ' H2 => σ' = [some (.int t), some (.int q), some (.str (frontS t))] ∧ H2 = H') (fun σ' H2 hC => ?_) (fun R hR => ⟨_, rfl, _, rfl, rfl, _, rfl, ?_⟩)
        · obtain ⟨rfl, rfl⟩ := hC
          refine ⟨_, rfl, rfl, _, rfl, ?_⟩
          rw [dec_int]
          refine ifB (fun e2 => ?_) (fun e2 => ?_)
          · have e2 : ¬ q = 0 := by simpa using e2
            rw [if_neg e2] at k
            refine ⟨_, rfl, .inl ⟨_, rfl, by omega, _, rfl, by simp only [Str.length_append]; omega, _, rfl, _, rfl, mq.big, _, rfl, by simp only [Str.length_append]; omega, ?_⟩⟩
            simp only [Str.empty_append]
            exact k
          · have e2 : q = 0 := by simpa using e2
            rw [if_pos e2] at k
            exact ⟨_, rfl, k⟩
        · rw [dec_int]
          refine ifB (fun e2 => ?_) (fun e2 => ?_)
          · have e2 : t = -1 := by simpa using e2
            refine hR _ _ ⟨?_, rfl⟩
            have ef : frontS t = Str.ofString "-n" := by
              unfold frontS
              rw [if_neg (by omega), if_pos e2]
            rw [ef]
            rfl
          · have e2 : ¬ t = -1 := by simpa using e2
            refine hR _ _ ⟨?_, rfl⟩
            unfold frontS
            rw [if_neg e2]
      · rw [dec_int]
        refine ifB (fun e2 => ?_) (fun e2 => ?_)
        · have e2 : t = 1 := by simpa using e2
          refine hR _ _ ⟨?_, rfl⟩
          rw [if_pos e2]
          rfl
        · have e2 : ¬ t = 1 := by simpa using e2
          refine hR _ _ ⟨?_, rfl⟩
          rw [if_neg e2]
          simp only [Str.empty_append]
          rfl
def spFText : Sp := fun vs H Q _ => ∃ (t q c : Int), vs = [.int t, .int q, .int c] ∧ Mid t ∧ Mid q ∧ 1 ≤ c ∧ Mid c ∧ Q (.str (formText t q c)) H
theorem ok_ftext (T : Txt K mg) : FnOk P w K mg base CX0 2 T.a__text T.d__text ["times", "plus", "by"] spFText := by
  have G__upper : FnOk P w K mg base CX0 1 T.a__upper T.d__upper ["times", "plus"] spUpper := ok_upper T
  refine T.F__text.ok sc__text (fun vs H Q E h => ?_) (fun cdv A outer s H vs Q E hr h => ?_)
  · obtain ⟨t, q, c, rfl, _⟩ := h
    rfl
  · obtain ⟨t, q, c, rfl, mt, mq, c1, mc, k⟩ := h
    have nd := sc__text.nd
    refine ⟨_, (pss_cons (ps_set (i := 3) nd rfl (Or.inl rfl) (pe_call G__upper (hr.mono (by first | decide | omega)) (by rfl) T.m__upper T.k__upper T.b__upper .nil pass0 (pa_cons (pv 0) (pa_cons (pv 1) pa_nil))))
    (pss_one (ps_ret (pe_ifExp (pt_cmpR op_gt (pv 2) pe_int (nomark _)) (pe_joined (.cons pe_str (.cons (pe_fmt (pv 3)) (.cons pe_str (.cons (pe_fmt (pv 2)) .nil))))) (pv 3))))), ?_⟩
    have b1 := upper_len mt mq
    have b2 := nS_mid mc
    have e9 := sizeLine_eq
    have w0 : Str.empty.length = 0 := rfl
    have w1 : (Str.ofString "(").length = 1 := by decide
    have w2 : (Str.ofString ")/").length = 2 := by decide
    have b2' : (Str.ofString (toString c)).length ≤ 401 := b2
    refine ⟨_, rfl, _, rfl, t, q, rfl, mt, mq, ?_⟩
    dsimp only [gName]
    refine ⟨_, rfl, _, _, rfl, rfl, _, rfl, ifD (fun e => ?_) (fun e => ?_)⟩
    · unfold formText at k
      rw [if_neg (by omega)] at k
      refine ⟨_, rfl, by simp only [Str.length_append]; omega, _, rfl, .inl ⟨_, rfl, by omega, _, rfl, by simp only [Str.length_append]; omega, _, rfl, by simp only [Str.length_append]; omega, _, rfl, .inr ⟨_, rfl, log_big mc.big, _, rfl, by simp only [Str.length_append]; omega, ?_⟩⟩⟩
      show Q (.str (Str.empty ++ Str.ofString "(" ++ upperS t q ++ Str.ofString ")/" ++ nS c)) H
      simp only [Str.empty_append, Str.append_assoc]
      exact k
    · unfold formText at k
      rw [if_pos (by omega)] at k
      exact ⟨_, rfl, k⟩
def spFStr (C : Addr) : Sp := fun vs H Q _ => ∃ (x : Addr) (t q c : Int), vs = [.ref x] ∧ FormO C H x t q c ∧ Mid t ∧ Mid q ∧ 1 ≤ c ∧ Mid c ∧ Q (.str (formText t q c)) H
theorem ok_fstr (T : Txt K mg) : FnOk P w K mg base CX0 3 T.a_Form___str__ T.d_Form___str__ ["self"] (spFStr T.c_Form) := by
  have G__text : FnOk P w K mg base CX0 2 T.a__text T.d__text ["times", "plus", "by"] spFText := ok_ftext T
  refine T.F_Form___str__.ok sc_Form___str__ (fun vs H Q E h => ?_) (fun cdv A outer s H vs Q E hr h => ?_)
  · obtain ⟨x, t, q, c, rfl, _⟩ := h
    rfl
  · obtain ⟨x, t, q, c, rfl, ⟨dx, hx⟩, mt, mq, c1, mc, k⟩ := h
    have nd := sc_Form___str__.nd
    refine ⟨_, (pss_one (ps_ret (pe_callTy SkE.call_str_str (by rfl) T.z_str (by decide +kernel) (pa_cons (pe_call G__text (hr.mono (by first | decide | omega)) (by rfl) T.m__text T.k__text T.b__text .nil pass0 (pa_cons (pe_fld (pv 0) rfl) (pa_cons (pe_fld (pv 0) rfl) (pa_cons (pe_fld (pv 0) rfl) pa_nil)))) pa_nil)))), ?_⟩
    refine ⟨_, rfl, x, _, dx, _, _, rfl, hx, T.C_Form, T.n_Form_times, rfl, _, rfl, x, _, dx, _, _, rfl, hx, T.C_Form, T.n_Form_plus, rfl, _, rfl, x, _, dx, _, _, rfl, hx, T.C_Form, T.n_Form_by, rfl, ?_⟩
    exact ⟨t, q, c, rfl, mt, mq, c1, mc, _, rfl, k⟩
def spFEq (K : PySem.W.Frag) (C : Addr) : Sp := fun vs H Q _ => ∃ (x : Addr) (t q c : Int) (v : V), vs = [.ref x, v] ∧ FormO C H x t q c ∧
  ((∃ y t' q' c', v = .ref y ∧ FormO C H y t' q' c' ∧ Q (.bl (decide (t = t' ∧ q = q' ∧ c = c'))) H) ∨ ∃ T, TyX K H v T ∧ PySem.W.kitOne K T (.ref C) = some false ∧ Q (.bl false) H)
theorem ok_feq (T : Txt K mg) : FnOk P w K mg base CX0 1 T.a_Form___eq__ T.d_Form___eq__ ["self", "other"] (spFEq K T.c_Form) := by
  refine T.F_Form___eq__.ok sc_Form___eq__ (fun vs H Q E h => ?_) (fun cdv A outer s H vs Q E hr h => ?_)
  · obtain ⟨x, t, q, c, v, rfl, _⟩ := h
    rfl
  · obtain ⟨x, t, q, c, v, rfl, ⟨dx, hx⟩, hv⟩ := h
    have nd := sc_Form___eq__.nd
    refine ⟨_, (pss_one (ps_ret (pe_and (pe_callB call_isi (by rfl) T.z_isinstance (by decide +kernel) (pa_cons (pv 1) (pa_cons (pe_glob rfl T.m_Form (rel_ref _)) pa_nil))) (pe_and (pe_cmpR op_eq (pe_fld (pv 0) rfl) (pe_fld (pv 1) rfl) (nomark _)) (pe_and (pe_cmpR op_eq (pe_fld (pv 0) rfl) (pe_fld (pv 1) rfl) (nomark _)) (pe_one (pe_cmpR op_eq (pe_fld (pv 0) rfl) (pe_fld (pv 1) rfl) (nomark _)))))))), ?_⟩
    rcases hv with ⟨y, t', q', c', rfl, ⟨dy, hy⟩, k⟩ | ⟨TT, ty, kt, k⟩
    · refine ⟨_, rfl, _, _, _, _, _, rfl, .own _, T.I_Form.ty T.C_Form hy, kit_self, _, rfl, ifT rfl ?_⟩
      have no : ¬ (t = t' ∧ q = q' ∧ c = c') → Q (.bl false) H := fun n => by
        rw [decide_eq_false n] at k
        exact k
      refine ⟨_, rfl, x, _, dx, _, _, rfl, hx, T.C_Form, T.n_Form_times, rfl, _, rfl, y, _, dy, _, _, rfl, hy, T.C_Form, T.n_Form_times, rfl, rfl, _, rfl, ?_⟩
      rw [dec_int]
      refine ifB (fun e0 => ?_) (fun e0 => no fun z => by simp [z.1] at e0)
      have e0 : t = t' := by simpa using e0
      refine ⟨_, rfl, x, _, dx, _, _, rfl, hx, T.C_Form, T.n_Form_plus, rfl, _, rfl, y, _, dy, _, _, rfl, hy, T.C_Form, T.n_Form_plus, rfl, rfl, _, rfl, ?_⟩
      rw [dec_int]
      refine ifB (fun e1 => ?_) (fun e1 => no fun z => by simp [z.2.1] at e1)
      have e1 : q = q' := by simpa using e1
      refine ⟨_, rfl, x, _, dx, _, _, rfl, hx, T.C_Form, T.n_Form_by, rfl, _, rfl, y, _, dy, _, _, rfl, hy, T.C_Form, T.n_Form_by, rfl, rfl, ?_⟩
      have e2 : decide (V.int c = V.int c') = decide (t = t' ∧ q = q' ∧ c = c') := by
        rw [dec_int]
        simp [e0, e1]
        rfl
      rw [e2]
      exact k
    · exact ⟨_, rfl, _, _, _, _, _, rfl, .own _, ty, kt, _, rfl, ifF rfl k⟩

end
end K09
namespace K09
open PySem PySem.Spec PyProof.Rows L2 Rs
local macro_rules | `(tactic| walk_at "om") => `(tactic| first | omega | (dsimp only; omega))
local macro_rules | `(tactic| walk_at "side") => `(tactic| first | omega | (dsimp only; omega) | decide | (unfold CMul; omega) | (unfold CDiv; omega) | (unfold CPow; omega) | exact wide_div (b := 64) (by omega) (by omega) (by decide) (by decide))
local macro_rules | `(tactic| walk_at "hp") => `(tactic| first | assumption | exact upd_same)
local macro_rules | `(tactic| walk_at "sq") => `(tactic| first | assumption | exact SqL.of (by assumption) | exact SqL.of upd_same)
local macro_rules | `(tactic| walk_at "st") => `(tactic| first
  | refine ⟨_, rfl, ?_⟩
  | (refine ⟨_, _, rfl, rfl, And.intro ?side ?_⟩; (case side => walk_at "side"))
  | refine ⟨_, _, rfl, rfl, ?_⟩
  | (refine' ⟨_, _, _, _, rfl, rfl, SqL.of ?hp, ?atx, ?_⟩; (case hp => walk_at "hp"); (case atx => exact rfl))
  | (refine' ⟨_, _, _, _, rfl, rfl, ?hp, ?atx, ?_⟩; (case hp => walk_at "hp"); (case atx => exact rfl))
  | (refine' ⟨_, _, rfl, Or.inl ?sq, ?_⟩; (case sq => walk_at "sq"))
  | refine Or.inl ⟨_, rfl, ?_⟩
  | refine Or.inr ⟨_, rfl, ?_⟩)
local macro_rules | `(tactic| walk_at "evd") => `(tactic| first
  | exact evd_int
  | exact evd_str
  | exact evd_non
  | exact evd_bl
  | exact evd_nil
  | (refine evd_cons ?_ (fun _ => ?_) <;> walk_at "evd")
  | (refine evd_tup ?_ (Nat.le_of_ble_eq_true rfl); walk_at "evd"))

section
variable {P : Program} {w : World} {K : PySem.W.Frag} {mg : Str → Option Value} {base : Heap}
/-! the law's own text and worth -/
structure FormR (t q c : Int) : Prop where
  t1 : Mid t
  q1 : Mid q
  c1 : 1 ≤ c
  c2 : Mid c
  len : (formText t q c).length ≤ 300
def spFormText (K : PySem.W.Frag) : Sp := fun vs H Q _ => ∃ (p : Addr) (t q c : Int), vs = [.ref p] ∧ SqT K H p [.int t, .int q, .int c] ∧ FormR t q c ∧ ∀ H', Same H H' → Q (.str (formText t q c)) H'
theorem ok_form_text (T : Txt K mg) : FnOk P w K mg base CX0 1 T.a__law_form_text T.d__law_form_text ["_law_form_here"] (spFormText K) := by
  refine T.F__law_form_text.ok sc__law_form_text (fun vs H Q E h => ?_) (fun cdv A outer s H vs Q E hr h => ?_)
  · obtain ⟨p, t, q, c, rfl, _⟩ := h
    rfl
  · obtain ⟨p, t, q, c, rfl, hp, fr, k⟩ := h
    have nd := sc__law_form_text.nd
    refine ⟨_, (pss_cons (ps_asg (pv 0) (pg_tup rfl (pgs_cons (pg_name (i := 1) nd rfl (Or.inl rfl)) (pgs_cons (pg_name (i := 2) nd rfl (Or.inl rfl)) (pgs_cons (pg_name (i := 3) nd rfl (Or.inl rfl)) pgs_nil)))))
    (pss_cons (ps_set (i := 4) nd rfl (Or.inl rfl) (pe_dget2 (un1 hr) (pe_disp (pps_cons pe_int pe_str (pps_cons (pe_op op_sub pe_int pe_int) pe_str pps_nil)) (by rfl) (by rfl) (fun z => by cases z) (by decide)) (pv 1) (pe_op op_add_str (pe_callTy call_str_int (by rfl) T.z_str (by decide +kernel) (pa_cons (pv 1) pa_nil)) pe_str) ⟨rfl, rfl, rfl, rfl⟩))
    (pss_cons (ps_set (i := 5) nd rfl (Or.inl rfl) (pe_ifExp (pt_cmpR op_eq (pv 2) pe_int (nomark _)) pe_str (pe_op op_add_str (pe_ifExp (pt_cmpR op_gt (pv 2) pe_int (nomark _)) pe_str pe_str) (pe_callTy call_str_int (by rfl) T.z_str (by decide +kernel) (pa_cons (pv 2) pa_nil)))))
    (pss_cons (ps_set (i := 6) nd rfl (Or.inl rfl) (pe_ifExp (pt_cmpR op_eq (pv 1) pe_int (nomark _)) (pe_callTy call_str_int (by rfl) T.z_str (by decide +kernel) (pa_cons (pv 2) pa_nil)) (pe_op op_add_str (pv 4) (pv 5))))
    (pss_one (ps_ret (pe_ifExp (pt_cmpR op_eq (pv 3) pe_int (nomark _)) (pv 6) (pe_op op_add_str (pe_op op_add_str (pe_op op_add_str pe_str (pv 6)) pe_str) (pe_callTy call_str_int (by rfl) T.z_str (by decide +kernel) (pa_cons (pv 3) pa_nil)))))))))), ?_⟩
    refine ⟨_, rfl, p, _, rfl, hp, rfl, _, _, rfl, _, _, rfl, _, _, rfl, rfl, ?_⟩
    dsimp only [gName]
    have t1 := fr.t1
    have q1 := fr.q1
    have c1 := fr.c1
    have c2 := fr.c2
    have mt : Mid t := fr.t1
    have mq : Mid q := fr.q1
    have mc : Mid c := fr.c2
    have lt := log_big mt.big
    have lq := log_big mq.big
    have lc := log_big mc.big
    have b1 := nS_mid mt
    have b2 := nS_mid mq
    have b3 := front_len mt
    have b4 := plus_lenB mq.big
    have b5 := upper_len mt mq
    have b6 := nS_mid mc
    have e9 := sizeLine_eq
    have w1 : (Str.ofString "n").length = 1 := by decide
    have w2 : (Str.ofString "(").length = 1 := by decide
    have w3 : (Str.ofString ")/").length = 2 := by decide
    have w4 : (Str.ofString "+").length = 1 := by decide
    have w5 : (Str.ofString "").length = 0 := by decide
    have b1' : (Str.ofString (toString t)).length ≤ 401 := b1
    have b2' : (Str.ofString (toString q)).length ≤ 401 := b2
    have b6' : (Str.ofString (toString c)).length ≤ 401 := b6
    refine asg_go (val_same (v := .str (frontS t)) (fun R hR => ?_) fun H1 s1 => ?_)
    · refine fun d hd => ⟨0, 1, rfl, rfl, upd_same, [(.inl 1, .str (Str.ofString "n")), (.inl (0 - 1), .str (Str.ofString "-n"))], rfl, by decide, d, rfl, .inl ⟨_, .inl upd_same⟩, _, rfl, _, rfl, _, rfl, lt, _, _, rfl, rfl, by omega, _, DGet.k (k := Sum.inl t) upd_same, ?_⟩
      have ev : ∀ d : V, (valV (mergeK [] [((Sum.inl 1 : Key), V.str (Str.ofString "n")), (Sum.inl (0 - 1), V.str (Str.ofString "-n"))]) (Sum.inl t)).getD d = if t = 1 then V.str (Str.ofString "n") else if t = -1 then V.str (Str.ofString "-n") else d := by
        intro d
        have em : mergeK [] [((Sum.inl 1 : Key), V.str (Str.ofString "n")), (Sum.inl (0 - 1), V.str (Str.ofString "-n"))] = [((Sum.inl 1 : Key), V.str (Str.ofString "n")), (Sum.inl (-1), V.str (Str.ofString "-n"))] := rfl
        rw [em]
        unfold valV
        by_cases h1 : t = 1
        · subst h1
          rfl
        · by_cases h2 : t = -1
          · subst h2
            rfl
          · rw [if_neg h1, if_neg h2, List.find?_cons, List.find?_cons, List.find?_nil]
            have n1 : decide ((Sum.inl 1 : Key) = Sum.inl t) = false := decide_eq_false fun z => h1 (by injection z with z; exact z.symm)
            have n2 : decide ((Sum.inl (-1) : Key) = Sum.inl t) = false := decide_eq_false fun z => h2 (by injection z with z; exact z.symm)
            rw [n1, n2]
            rfl
      rw [ev]
      have fin := hR _ (show Same H (upd (upd H d (.dK [])) d (.dK (mergeK [] [((Sum.inl 1 : Key), V.str (Str.ofString "n")), (Sum.inl (0 - 1), V.str (Str.ofString "-n"))]))) from by
        rw [upd_upd]
        exact same_new hd)
      have ef : (if t = 1 then V.str (Str.ofString "n") else if t = -1 then V.str (Str.ofString "-n") else V.str (Str.ofString (toString t) ++ Str.ofString "n")) = V.str (frontS t) := by
        unfold frontS
        split
        · rfl
        · split <;> rfl
      rw [ef]
      exact fin
    dsimp only [gName]
    refine asg_go (val_go (v := .str (if q = 0 then Str.ofString "" else plusS q)) (fun R hR => ⟨_, rfl, rfl, _, rfl, ?_⟩) ?_)
    · rw [dec_int]
      refine ifB (fun e => ?_) (fun e => ?_)
      · rw [if_pos (show q = 0 by simpa using e)] at hR
        exact hR
      · have e : ¬ q = 0 := by simpa using e
        rw [if_neg e] at hR
        unfold plusS at hR
        refine ⟨_, rfl, _, _, rfl, rfl, _, rfl, ifD (fun g => ?_) (fun g => ?_)⟩
        · rw [if_neg (by omega)] at hR
          exact ⟨_, rfl, _, rfl, lq, _, _, rfl, rfl, by omega, hR⟩
        · rw [if_pos (by omega)] at hR
          refine ⟨_, rfl, _, rfl, lq, _, _, rfl, rfl, by omega, ?_⟩
          have ee : Str.ofString "" ++ Str.ofString (toString q) = nS q := Str.empty_append _
          rw [ee]
          exact hR
    dsimp only [gName]
    refine asg_go (val_go (v := .str (upperS t q)) (fun R hR => ⟨_, rfl, rfl, _, rfl, ?_⟩) ?_)
    · rw [dec_int]
      unfold upperS at hR
      refine ifB (fun e => ?_) (fun e => ?_)
      · rw [if_pos (show t = 0 by simpa using e)] at hR
        exact ⟨_, rfl, _, rfl, lq, hR⟩
      · rw [if_neg (show ¬ t = 0 by simpa using e)] at hR
        by_cases e2 : q = 0
        · rw [if_pos e2] at hR
          rw [if_pos e2]
          refine ⟨_, rfl, _, rfl, _, _, rfl, rfl, by omega, ?_⟩
          have ee : frontS t ++ Str.ofString "" = frontS t := Str.append_empty _
          rw [ee]
          exact hR
        · rw [if_neg e2] at hR
          rw [if_neg e2]
          exact ⟨_, rfl, _, rfl, _, _, rfl, rfl, by omega, hR⟩
    dsimp only [gName]
    refine ⟨_, rfl, rfl, _, rfl, ?_⟩
    rw [dec_int]
    have kk := k H1 s1
    unfold formText at kk
    refine ifB (fun e => ?_) (fun e => ?_)
    · rw [if_pos (show c = 1 by simpa using e)] at kk
      exact ⟨_, rfl, kk⟩
    · rw [if_neg (show ¬ c = 1 by simpa using e)] at kk
      refine ⟨_, rfl, _, _, rfl, rfl, by omega, _, _, rfl, rfl, by simp only [Str.length_append]; omega, _, rfl, _, rfl, lc, _, _, rfl, rfl, by simp only [Str.length_append]; omega, ?_⟩
      show Q (.str (Str.ofString "(" ++ upperS t q ++ Str.ofString ")/" ++ nS c)) H1
      simp only [Str.append_assoc]
      exact kk

/-! equal texts mean equal forms (behind formo.inc) -/
theorem digs {m : Nat} : ∀ c ∈ (Nat.toDigits 10 m).map Char.toNat, 48 ≤ c ∧ c ≤ 57 := by
  intro c hc
  obtain ⟨d, hd, rfl⟩ := List.mem_map.mp hc
  have h := Nat.isDigit_of_mem_toDigits (by decide) (by decide) hd
  simp only [Char.isDigit, Bool.and_eq_true, decide_eq_true_eq] at h
  exact ⟨h.1, h.2⟩
/-- the signs of a number -/
theorem nS_signs {n : Int} : ∀ c ∈ TL.tl (nS n), c = 45 ∨ (48 ≤ c ∧ c ≤ 57) := by
  intro c hc
  by_cases h : n < 0
  · rw [signs_neg h] at hc
    rcases List.mem_cons.mp hc with e | e
    · exact .inl e
    · exact .inr (digs c e)
  · rw [signs_pos (by omega)] at hc
    exact .inr (digs c hc)
theorem cut_at {x : Nat} : ∀ {a a' b b' : List Nat}, x ∉ a → x ∉ a' → a ++ x :: b = a' ++ x :: b' → a = a' ∧ b = b'
  | [], [], _, _, _, _, h => ⟨rfl, by simpa using h⟩
  | [], y :: a', _, _, _, n, h => by
    rw [List.nil_append, List.cons_append] at h
    injection h with h1 h2
    exact absurd (h1 ▸ List.mem_cons_self) n
  | y :: a, [], _, _, n, _, h => by
    rw [List.nil_append, List.cons_append] at h
    injection h with h1 h2
    exact absurd (h1 ▸ List.mem_cons_self) n
  | y :: a, z :: a', b, b', n, n', h => by
    rw [List.cons_append, List.cons_append] at h
    injection h with h1 h2
    obtain ⟨e1, e2⟩ := cut_at (fun m => n (List.mem_cons_of_mem _ m)) (fun m => n' (List.mem_cons_of_mem _ m)) h2
    exact ⟨by rw [h1, e1], e2⟩
theorem tl_inj {x y : Str} (h : TL.tl x = TL.tl y) : x = y := by
  obtain ⟨⟨a⟩⟩ := x
  obtain ⟨⟨b⟩⟩ := y
  have h : a = b := h
  rw [h]
def Nine (n : Int) : Prop := n.natAbs < 10 ^ 9
theorem signs_abs {n : Int} : (Nat.toDigits 10 n.natAbs).map Char.toNat = TL.tl (nS (n.natAbs : Int)) := by
  rw [signs_pos (n := (n.natAbs : Int)) (by omega)]
  rfl
theorem nS_injZ {n m : Int} (hn : Nine n) (hm : Nine m) (e : TL.tl (nS n) = TL.tl (nS m)) : n = m := by
  unfold Nine at hn hm
  have abs : (Nat.toDigits 10 n.natAbs).map Char.toNat = (Nat.toDigits 10 m.natAbs).map Char.toNat → (n.natAbs : Int) = m.natAbs := fun z => by
    rw [signs_abs, signs_abs] at z
    exact nS_inj (by omega) (by omega) (by omega) (by omega) (tl_inj z)
  have odd : ∀ {k : Nat} {l : List Nat}, 45 :: l ≠ (Nat.toDigits 10 k).map Char.toNat := fun {k l} z => by
    have := digs (m := k) 45 (z ▸ List.mem_cons_self)
    omega
  by_cases a : n < 0 <;> by_cases b : m < 0
  · rw [signs_neg a, signs_neg b] at e
    injection e with _ e
    have := abs e
    omega
  · rw [signs_neg a, signs_pos (by omega)] at e
    exact absurd e odd
  · rw [signs_pos (by omega), signs_neg b] at e
    exact absurd e.symm odd
  · rw [signs_pos (by omega), signs_pos (by omega)] at e
    have := abs e
    omega
theorem nS_ne {n : Int} : TL.tl (nS n) ≠ [] := by
  by_cases a : n < 0
  · rw [signs_neg a]
    simp
  · rw [signs_pos (by omega)]
    exact digits_ne
theorem nS_dash {n : Int} : TL.tl (nS n) ≠ [45] := by
  by_cases a : n < 0
  · rw [signs_neg a]
    intro e
    injection e with _ e
    exact digits_ne e
  · rw [signs_pos (by omega)]
    intro e
    have := digs (m := n.natAbs) 45 (e ▸ List.mem_cons_self)
    omega
def headL (t : Int) : List Nat := if t = 1 then [] else if t = -1 then [45] else TL.tl (nS t)
def tailL (q : Int) : List Nat := if q = 0 then [] else TL.tl (plusS q)
theorem front_tl {t : Int} : TL.tl (frontS t) = headL t ++ [110] := by
  unfold frontS headL
  split
  · rfl
  · split
    · rfl
    · rw [TL.tl_append]
      rfl
theorem upper_tl {t q : Int} : TL.tl (upperS t q) = if t = 0 then TL.tl (nS q) else headL t ++ 110 :: tailL q := by
  unfold upperS tailL
  split
  · rfl
  · split
    · rw [front_tl]
    · rw [TL.tl_append, front_tl, List.append_assoc]
      rfl
theorem head_signs {t : Int} : ∀ c ∈ headL t, c = 45 ∨ (48 ≤ c ∧ c ≤ 57) := by
  unfold headL
  split
  · intro c h
    cases h
  · split
    · intro c h
      simp only [List.mem_cons, List.not_mem_nil, or_false] at h
      exact .inl h
    · exact nS_signs
theorem plus_signs {q : Int} : ∀ c ∈ tailL q, c = 43 ∨ c = 45 ∨ (48 ≤ c ∧ c ≤ 57) := by
  unfold tailL plusS
  split
  · intro c h
    cases h
  · split
    · exact fun c h => .inr (nS_signs c h)
    · intro c h
      rw [TL.tl_append] at h
      rcases List.mem_append.mp h with h | h
      · have h : c ∈ [43] := h
        simp only [List.mem_cons, List.not_mem_nil, or_false] at h
        exact .inl h
      · exact .inr (nS_signs c h)
theorem upper_signs {t q : Int} : ∀ c ∈ TL.tl (upperS t q), c = 43 ∨ c = 45 ∨ c = 110 ∨ (48 ≤ c ∧ c ≤ 57) := by
  intro c h
  rw [upper_tl] at h
  split at h
  · rcases nS_signs c h with e | e
    · exact .inr (.inl e)
    · exact .inr (.inr (.inr e))
  · rcases List.mem_append.mp h with h | h
    · rcases head_signs c h with e | e
      · exact .inr (.inl e)
      · exact .inr (.inr (.inr e))
    · rcases List.mem_cons.mp h with e | h
      · exact .inr (.inr (.inl e))
      · rcases plus_signs c h with e | e | e
        · exact .inl e
        · exact .inr (.inl e)
        · exact .inr (.inr (.inr e))
theorem head_inj {t t' : Int} (h : Nine t) (h' : Nine t') (e : headL t = headL t') : t = t' := by
  unfold headL at e
  by_cases a : t = 1 <;> by_cases b : t' = 1
  · omega
  · rw [if_pos a, if_neg b] at e
    split at e
    · cases e
    · exact absurd e.symm nS_ne
  · rw [if_neg a, if_pos b] at e
    split at e
    · cases e
    · exact absurd e nS_ne
  · rw [if_neg a, if_neg b] at e
    by_cases c : t = -1 <;> by_cases d : t' = -1
    · omega
    · rw [if_pos c, if_neg d] at e
      exact absurd e.symm nS_dash
    · rw [if_neg c, if_pos d] at e
      exact absurd e nS_dash
    · rw [if_neg c, if_neg d] at e
      exact nS_injZ h h' e
theorem plus_tl {q : Int} (h : q ≠ 0) : tailL q = if q < 0 then TL.tl (nS q) else 43 :: TL.tl (nS q) := by
  unfold tailL plusS
  rw [if_neg h]
  split
  · rfl
  · rw [TL.tl_append]
    rfl
theorem tail_inj {q q' : Int} (h : Nine q) (h' : Nine q') (e : tailL q = tailL q') : q = q' := by
  have emp : ∀ {z : Int}, z ≠ 0 → tailL z ≠ [] := fun {z} hz => by
    rw [plus_tl hz]
    split
    · exact nS_ne
    · simp
  have dif : ∀ {z y : Int} {l : List Nat}, TL.tl (nS z) ≠ 43 :: l := fun {z y l} e => by
    have := nS_signs (n := z) 43 (e ▸ List.mem_cons_self)
    omega
  by_cases a : q = 0 <;> by_cases b : q' = 0
  · omega
  · rw [show tailL q = [] by unfold tailL; rw [if_pos a]] at e
    exact absurd e.symm (emp b)
  · rw [show tailL q' = [] by unfold tailL; rw [if_pos b]] at e
    exact absurd e (emp a)
  · rw [plus_tl a, plus_tl b] at e
    by_cases c : q < 0 <;> by_cases d : q' < 0
    · rw [if_pos c, if_pos d] at e
      exact nS_injZ h h' e
    · rw [if_pos c, if_neg d] at e
      exact absurd e (dif (y := 0))
    · rw [if_neg c, if_pos d] at e
      exact absurd e.symm (dif (y := 0))
    · rw [if_neg c, if_neg d] at e
      injection e with _ e
      exact nS_injZ h h' e
theorem upper_inj {t q t' q' : Int} (h1 : Nine t) (h2 : Nine q) (h3 : Nine t') (h4 : Nine q') (e : TL.tl (upperS t q) = TL.tl (upperS t' q')) : t = t' ∧ q = q' := by
  rw [upper_tl, upper_tl] at e
  have no : ∀ {z : Int}, 110 ∉ TL.tl (nS z) := fun {z} h => by
    have := nS_signs (n := z) 110 h
    omega
  have noH : ∀ {z : Int}, 110 ∉ headL z := fun {z} h => by
    have := head_signs (t := z) 110 h
    omega
  by_cases a : t = 0 <;> by_cases b : t' = 0
  · rw [if_pos a, if_pos b] at e
    exact ⟨by omega, nS_injZ h2 h4 e⟩
  · rw [if_pos a, if_neg b] at e
    exact absurd (e ▸ List.mem_append_right _ List.mem_cons_self) no
  · rw [if_neg a, if_pos b] at e
    exact absurd (e.symm ▸ List.mem_append_right _ List.mem_cons_self) no
  · rw [if_neg a, if_neg b] at e
    obtain ⟨e1, e2⟩ := cut_at noH noH e
    exact ⟨head_inj h1 h3 e1, tail_inj h2 h4 e2⟩
/-- equal texts mean equal forms -/
theorem formText_inj {t q c t' q' c' : Int} (h1 : Nine t) (h2 : Nine q) (h3 : Nine c) (h4 : Nine t') (h5 : Nine q') (h6 : Nine c') (e : formText t q c = formText t' q' c') : t = t' ∧ q = q' ∧ c = c' := by
  have big : ∀ {t q c : Int}, TL.tl (Str.ofString "(" ++ (upperS t q ++ (Str.ofString ")/" ++ nS c))) = 40 :: (TL.tl (upperS t q) ++ 41 :: 47 :: TL.tl (nS c)) := by
    intro t q c
    rw [TL.tl_append, TL.tl_append, TL.tl_append]
    rfl
  have no : ∀ {t q : Int} {x : Nat}, x = 40 ∨ x = 41 → x ∉ TL.tl (upperS t q) := fun {t q x} hx h => by
    have := upper_signs (t := t) (q := q) x h
    omega
  have e := congrArg TL.tl e
  unfold formText at e
  by_cases a : c = 1 <;> by_cases b : c' = 1
  · rw [if_pos a, if_pos b] at e
    obtain ⟨e1, e2⟩ := upper_inj h1 h2 h4 h5 e
    exact ⟨e1, e2, by omega⟩
  · rw [if_pos a, if_neg b, big] at e
    exact absurd (e ▸ List.mem_cons_self) (no (.inl rfl))
  · rw [if_neg a, if_pos b, big] at e
    exact absurd (e.symm ▸ List.mem_cons_self) (no (.inl rfl))
  · rw [if_neg a, if_neg b, big, big] at e
    injection e with _ e
    obtain ⟨e1, e2⟩ := cut_at (no (.inr rfl)) (no (.inr rfl)) e
    injection e2 with _ e2
    obtain ⟨u1, u2⟩ := upper_inj h1 h2 h4 h5 e1
    exact ⟨u1, u2, nS_injZ h3 h6 e2⟩

end
end K09
namespace K09
open PySem PySem.Spec PyProof.Rows L2 Rs
local macro_rules | `(tactic| walk_at "om") => `(tactic| first | omega | (dsimp only; omega))
local macro_rules | `(tactic| walk_at "side") => `(tactic| first | omega | (dsimp only; omega) | decide | (unfold CMul; omega) | (unfold CDiv; omega) | (unfold CPow; omega) | exact wide_div (b := 64) (by omega) (by omega) (by decide) (by decide))
local macro_rules | `(tactic| walk_at "hp") => `(tactic| first | assumption | exact upd_same)
local macro_rules | `(tactic| walk_at "sq") => `(tactic| first | assumption | exact SqL.of (by assumption) | exact SqL.of upd_same)
local macro_rules | `(tactic| walk_at "st") => `(tactic| first
  | refine ⟨_, rfl, ?_⟩
  | (refine ⟨_, _, rfl, rfl, And.intro ?side ?_⟩; (case side => walk_at "side"))
  | refine ⟨_, _, rfl, rfl, ?_⟩
  | (refine' ⟨_, _, _, _, rfl, rfl, SqL.of ?hp, ?atx, ?_⟩; (case hp => walk_at "hp"); (case atx => exact rfl))
  | (refine' ⟨_, _, _, _, rfl, rfl, ?hp, ?atx, ?_⟩; (case hp => walk_at "hp"); (case atx => exact rfl))
  | (refine' ⟨_, _, rfl, Or.inl ?sq, ?_⟩; (case sq => walk_at "sq"))
  | refine Or.inl ⟨_, rfl, ?_⟩
  | refine Or.inr ⟨_, rfl, ?_⟩)
local macro_rules | `(tactic| walk_at "evd") => `(tactic| first
  | exact evd_int
  | exact evd_str
  | exact evd_non
  | exact evd_bl
  | exact evd_nil
  | (refine evd_cons ?_ (fun _ => ?_) <;> walk_at "evd")
  | (refine evd_tup ?_ (Nat.le_of_ble_eq_true rfl); walk_at "evd"))

section
variable {P : Program} {w : World} {K : PySem.W.Frag} {mg : Str → Option Value} {base : Heap}
/-! texts of forms, sign by sign -/
def dgs (n : Nat) : List Nat := (Nat.toDigits 10 n).map Char.toNat
theorem digit_sign : ∀ d : Nat, d < 10 → (Nat.digitChar d).toNat = 48 + d := by decide
theorem dgs_small {m : Nat} (h : m < 10) : dgs m = [48 + m] := by
  unfold dgs
  rw [Nat.toDigits_of_lt_base h, List.map_cons, digit_sign m h]
  rfl
theorem dgs_big {m : Nat} (h : 10 ≤ m) : dgs m = dgs (m / 10) ++ [48 + m % 10] := by
  unfold dgs
  rw [Nat.toDigits_of_base_le (by decide) h, List.map_append, List.map_cons, digit_sign _ (Nat.mod_lt m (by decide))]
  rfl
theorem dgs_val (m : Nat) : PySem.NumText.digitsVal (dgs m) = m := PySem.W.KIN.val_back m
theorem dgs_inj {m k : Nat} (h : dgs m = dgs k) : m = k := by rw [← dgs_val m, h, dgs_val k]
/-- the signs of a number from 0 on -/
structure NumL (ds : List Nat) : Prop where
  ne : ds ≠ []
  dg : ∀ c ∈ ds, 48 ≤ c ∧ c ≤ 57
  hd : ds = [48] ∨ ds.head? ≠ some 48
theorem dgs_zero : dgs 0 = [48] := dgs_small (by decide)
theorem dgs_one : dgs 1 = [49] := dgs_small (by decide)
theorem num_dgs (m : Nat) : NumL (dgs m) := by
  refine ⟨digits_ne, digs, ?_⟩
  induction m using Nat.strongRecOn with
  | _ m ih =>
    by_cases h : m < 10
    · rw [dgs_small h]
      by_cases z : m = 0
      · subst z
        exact .inl rfl
      · refine .inr fun e => z ?_
        injection e with e
        omega
    · rw [dgs_big (by omega)]
      right
      rcases ih (m / 10) (by omega) with e | e
      · have := dgs_inj (e.trans dgs_zero.symm)
        omega
      · cases hd : dgs (m / 10) with
        | nil => exact absurd hd digits_ne
        | cons c r =>
          rw [hd] at e
          exact e
theorem dgs_of_num : ∀ {ds : List Nat}, NumL ds → ∃ n, ds = dgs n := by
  intro ds
  generalize hl : ds.length = l
  induction l using Nat.strongRecOn generalizing ds with
  | _ l ih =>
    intro h
    have e := List.dropLast_concat_getLast h.ne
    have cd := h.dg _ (List.getLast_mem h.ne)
    generalize ds.getLast h.ne = c at e cd
    by_cases z : ds.dropLast = []
    · rw [z, List.nil_append] at e
      refine ⟨c - 48, ?_⟩
      rw [dgs_small (by omega), ← e]
      congr 1
      omega
    · have d1 : ∀ x ∈ ds.dropLast, 48 ≤ x ∧ x ≤ 57 := fun x hx => h.dg x (List.dropLast_subset _ hx)
      have h1 : ds.dropLast.head? ≠ some 48 := by
        intro q
        rcases h.hd with e2 | e2
        · rw [e2] at z
          exact z rfl
        · refine e2 ?_
          rw [← e]
          cases hd : ds.dropLast with
          | nil => exact absurd hd z
          | cons x r =>
            rw [hd] at q
            exact q
      obtain ⟨n, hn⟩ := ih ds.dropLast.length (by rw [List.length_dropLast]; have := List.length_pos_iff.mpr h.ne; omega) rfl ⟨z, d1, .inr h1⟩
      have n0 : n ≠ 0 := fun q => by
        rw [q, dgs_zero] at hn
        rw [hn] at h1
        exact h1 rfl
      refine ⟨10 * n + (c - 48), ?_⟩
      rw [dgs_big (by omega), show (10 * n + (c - 48)) / 10 = n by omega, show (10 * n + (c - 48)) % 10 = c - 48 by omega, ← hn, ← e]
      congr 2
      rw [e]
      omega
/-- the signs of an integer -/
def intL (n : Int) : List Nat := if n < 0 then 45 :: dgs n.natAbs else dgs n.natAbs
theorem nS_tl {n : Int} : TL.tl (nS n) = intL n := by
  unfold intL
  split
  · exact signs_neg (by assumption)
  · exact signs_pos (by omega)
def DigL (ds : List Nat) : Prop := ds ≠ [] ∧ ∀ c ∈ ds, 48 ≤ c ∧ c ≤ 57
instance {ds : List Nat} : Decidable (DigL ds) := inferInstanceAs (Decidable (_ ∧ _))
/-- the integer that a word tells, perhaps with zeros ahead -/
def wholeL (w : List Nat) : Option Int :=
  if w.head? = some 45 then (if DigL w.tail then some (-(PySem.NumText.digitsVal w.tail : Int)) else none) else if DigL w then some (PySem.NumText.digitsVal w : Int) else none
theorem dgs_head {n : Nat} : (dgs n).head? ≠ some 45 := by
  intro e
  cases h : dgs n with
  | nil => rw [h] at e; cases e
  | cons c r =>
    rw [h] at e
    injection e with e
    have := (num_dgs n).dg c (by rw [h]; exact List.mem_cons_self ..)
    omega
theorem wholeL_int (n : Int) : wholeL (intL n) = some n := by
  have d := num_dgs n.natAbs
  have dl : DigL (dgs n.natAbs) := ⟨d.ne, d.dg⟩
  unfold intL wholeL
  by_cases h : n < 0
  · rw [if_pos h, if_pos (show (45 :: dgs n.natAbs).head? = some 45 from rfl)]
    show (if DigL (dgs n.natAbs) then some (-(PySem.NumText.digitsVal (dgs n.natAbs) : Int)) else none) = _
    rw [if_pos dl, dgs_val]
    congr 1
    omega
  · rw [if_neg h, if_neg dgs_head, if_pos dl, dgs_val]
    congr 1
    omega
theorem val_bound {ds : List Nat} (h : ∀ c ∈ ds, 48 ≤ c ∧ c ≤ 57) : PySem.NumText.digitsVal ds < 10 ^ ds.length := by
  generalize hl : ds.length = l
  induction l generalizing ds with
  | zero =>
    rw [List.length_eq_zero_iff.mp hl]
    decide
  | succ l ih =>
    have ne : ds ≠ [] := fun e => by rw [e] at hl; cases hl
    have e := List.dropLast_concat_getLast ne
    have cd := h _ (List.getLast_mem ne)
    generalize ds.getLast ne = c at e cd
    have a := ih (ds := ds.dropLast) (fun x hx => h x (List.dropLast_subset _ hx)) (by rw [List.length_dropLast]; omega)
    rw [← e, PySem.NumText.digitsVal_snoc, Nat.pow_succ]
    omega
theorem wholeL_bound {w : List Nat} {n : Int} (h : wholeL w = some n) : n.natAbs < 10 ^ w.length := by
  unfold wholeL at h
  split at h
  · split at h
    · rename_i d
      cases h
      have a := val_bound d.2
      have b : w.tail.length ≤ w.length := by rw [List.length_tail]; omega
      have c := Nat.pow_le_pow_right (show 0 < 10 by decide) b
      omega
    · cases h
  · split at h
    · rename_i d
      cases h
      have a := val_bound d.2
      omega
    · cases h
def factorL (w : List Nat) : Option Int := if w = [] then some 1 else if w = [45] then some (-1) else wholeL w
theorem intL_ne {n : Int} : intL n ≠ [] := by rw [← nS_tl]; exact nS_ne
theorem intL_dash {n : Int} : intL n ≠ [45] := by rw [← nS_tl]; exact nS_dash
theorem headL_eq {t : Int} : headL t = if t = 1 then [] else if t = -1 then [45] else intL t := by
  unfold headL
  rw [nS_tl]
theorem factorL_head {t : Int} : factorL (headL t) = some t := by
  rw [headL_eq]
  unfold factorL
  by_cases a : t = 1
  · rw [if_pos a, if_pos rfl, a]
  · rw [if_neg a]
    by_cases b : t = -1
    · rw [if_pos b, if_neg (by simp), if_pos rfl, b]
    · rw [if_neg b, if_neg intL_ne, if_neg intL_dash, wholeL_int]
def plusL (b : List Nat) : Option Int := if b = [] then some 0 else wholeL (if b.head? = some 43 then b.tail else b)
theorem tailL_eq {q : Int} : tailL q = if q = 0 then [] else if q < 0 then intL q else 43 :: intL q := by
  by_cases h : q = 0
  · rw [if_pos h]
    unfold tailL
    rw [if_pos h]
  · rw [plus_tl h, if_neg h, nS_tl]
theorem intL_head {n : Int} : (intL n).head? ≠ some 43 := by
  intro e
  have m : 43 ∈ intL n := List.mem_of_mem_head? e
  rw [← nS_tl] at m
  have := nS_signs _ m
  omega
theorem plusL_tail {q : Int} : plusL (tailL q) = some q := by
  rw [tailL_eq]
  unfold plusL
  by_cases a : q = 0
  · rw [if_pos a, if_pos rfl, a]
  · rw [if_neg a]
    by_cases b : q < 0
    · rw [if_pos b, if_neg intL_ne, if_neg intL_head, wholeL_int]
    · rw [if_neg b, if_neg (by simp), if_pos (show (43 :: intL q).head? = some 43 from rfl)]
      exact wholeL_int q
/-- what is told ahead of the first x, and behind it -/
theorem cut_first {x : Nat} : ∀ {w : List Nat}, x ∈ w → ∃ a b, w = a ++ x :: b ∧ x ∉ a
  | [], h => nomatch h
  | y :: w, h => by
    by_cases e : x = y
    · subst e
      exact ⟨[], w, rfl, List.not_mem_nil⟩
    · rcases List.mem_cons.mp h with h | h
      · exact absurd h e
      · obtain ⟨a, b, e2, n⟩ := cut_first h
        exact ⟨y :: a, b, by rw [e2]; rfl, fun z => (List.mem_cons.mp z).elim e n⟩
theorem upper_eq {t q : Int} : TL.tl (upperS t q) = if t = 0 then intL q else headL t ++ 110 :: tailL q := by
  rw [upper_tl, nS_tl]
theorem no_n {t : Int} : 110 ∉ headL t := fun m => by
  have := head_signs _ m
  omega
theorem no_n0 {q : Int} : 110 ∉ intL q := fun m => by
  rw [← nS_tl] at m
  have := nS_signs _ m
  omega
/-! the law's own grammar -/
def plainL (h : List Nat) : List Nat := if h.head? = some 45 then h.tail else h
def HeadOk (h : List Nat) : Prop := plainL h = [] ∨ (NumL (plainL h) ∧ plainL h ≠ [48] ∧ plainL h ≠ [49])
def TailOk (t : List Nat) : Prop := t = [] ∨ ∃ s r, t = s :: r ∧ (s = 43 ∨ s = 45) ∧ NumL r ∧ r ≠ [48]
def UpperOk (w : List Nat) : Prop := (110 ∉ w ∧ (NumL w ∨ ∃ r, w = 45 :: r ∧ NumL r ∧ r ≠ [48])) ∨ ∃ h t, w = h ++ 110 :: t ∧ 110 ∉ h ∧ HeadOk h ∧ TailOk t
theorem num_int {r : List Nat} (h : NumL r) : ∃ n : Nat, r = dgs n := dgs_of_num h
theorem signed {r : List Nat} (h : NumL r) (z : r ≠ [48]) : ∃ q : Int, q < 0 ∧ intL q = 45 :: r ∧ intL (-q) = r := by
  obtain ⟨n, rfl⟩ := num_int h
  have n0 : n ≠ 0 := fun e => z (by rw [e, dgs_zero])
  refine ⟨-(n : Int), by omega, ?_, ?_⟩
  · unfold intL
    rw [if_pos (by omega), show (-(n : Int)).natAbs = n by omega]
  · unfold intL
    rw [if_neg (by omega), show (-(-(n : Int))).natAbs = n by omega]
theorem int_pos {n : Nat} : intL (n : Int) = dgs n := by
  unfold intL
  rw [if_neg (by omega), Int.natAbs_natCast]
theorem head_ok {h : List Nat} : HeadOk h ↔ ∃ t : Int, t ≠ 0 ∧ h = headL t := by
  constructor
  · intro k
    unfold HeadOk plainL at k
    by_cases e : h.head? = some 45
    · rw [if_pos e] at k
      obtain ⟨r, rfl⟩ : ∃ r, h = 45 :: r := by
        cases h with
        | nil => cases e
        | cons c r => injection e with e; exact ⟨r, by rw [e]⟩
      rcases k with k | ⟨k, k0, k1⟩
      · have k : r = [] := k
        subst k
        exact ⟨-1, by decide, rfl⟩
      · obtain ⟨q, hq, e1, e2⟩ := signed k k0
        refine ⟨q, by omega, ?_⟩
        rw [headL_eq, if_neg (by omega), if_neg, e1]
        · rfl
        · intro z
          rw [z] at e2
          refine k1 ?_
          rw [← e2]
          exact int_pos (n := 1) |>.trans dgs_one
    · rw [if_neg e] at k
      rcases k with k | ⟨k, k0, k1⟩
      · subst k
        exact ⟨1, by decide, rfl⟩
      · obtain ⟨n, rfl⟩ := num_int k
        have n0 : n ≠ 0 := fun z => k0 (by rw [z, dgs_zero])
        have n1 : n ≠ 1 := fun z => k1 (by rw [z, dgs_one])
        exact ⟨(n : Int), by omega, by rw [headL_eq, if_neg (by omega), if_neg (by omega), int_pos]⟩
  · rintro ⟨t, t0, rfl⟩
    rw [headL_eq]
    unfold HeadOk plainL
    by_cases a : t = 1
    · rw [if_pos a]
      exact .inl rfl
    · rw [if_neg a]
      by_cases b : t = -1
      · rw [if_pos b]
        exact .inl rfl
      · rw [if_neg b]
        right
        have d := num_dgs t.natAbs
        have n0 : dgs t.natAbs ≠ [48] := fun z => by
          have := dgs_inj (z.trans dgs_zero.symm)
          omega
        have n1 : dgs t.natAbs ≠ [49] := fun z => by
          have := dgs_inj (z.trans dgs_one.symm)
          omega
        unfold intL
        by_cases c : t < 0
        · rw [if_pos c, if_pos (show (45 :: dgs t.natAbs).head? = some 45 from rfl)]
          exact ⟨d, n0, n1⟩
        · rw [if_neg c, if_neg dgs_head]
          exact ⟨d, n0, n1⟩
theorem tail_ok {t : List Nat} : TailOk t ↔ ∃ q : Int, t = tailL q := by
  constructor
  · rintro (k | ⟨s, r, rfl, hs, k, k0⟩)
    · subst k
      exact ⟨0, rfl⟩
    · obtain ⟨q, hq, e1, e2⟩ := signed k k0
      rcases hs with hs | hs
      · refine ⟨-q, ?_⟩
        rw [tailL_eq, if_neg (by omega), if_neg (by omega), e2, hs]
      · refine ⟨q, ?_⟩
        rw [tailL_eq, if_neg (by omega), if_pos hq, e1, hs]
  · rintro ⟨q, rfl⟩
    rw [tailL_eq]
    by_cases a : q = 0
    · rw [if_pos a]
      exact .inl rfl
    · rw [if_neg a]
      have d := num_dgs q.natAbs
      have n0 : dgs q.natAbs ≠ [48] := fun z => by
        have := dgs_inj (z.trans dgs_zero.symm)
        omega
      unfold intL
      by_cases b : q < 0
      · rw [if_pos b, if_pos b]
        exact .inr ⟨45, _, rfl, .inr rfl, d, n0⟩
      · rw [if_neg b, if_neg b]
        exact .inr ⟨43, _, rfl, .inl rfl, d, n0⟩
theorem upper_ok {w : List Nat} : UpperOk w ↔ ∃ t q : Int, w = TL.tl (upperS t q) := by
  constructor
  · rintro (⟨_, k | ⟨r, rfl, k, k0⟩⟩ | ⟨h, t, rfl, _, k1, k2⟩)
    · obtain ⟨n, rfl⟩ := num_int k
      exact ⟨0, n, by rw [upper_eq, if_pos rfl, int_pos]⟩
    · obtain ⟨q, _, e1, _⟩ := signed k k0
      exact ⟨0, q, by rw [upper_eq, if_pos rfl, e1]⟩
    · obtain ⟨t', t0, rfl⟩ := head_ok.mp k1
      obtain ⟨q, rfl⟩ := tail_ok.mp k2
      exact ⟨t', q, by rw [upper_eq, if_neg t0]⟩
  · rintro ⟨t, q, rfl⟩
    rw [upper_eq]
    by_cases a : t = 0
    · rw [if_pos a]
      refine .inl ⟨no_n0, ?_⟩
      have d := num_dgs q.natAbs
      unfold intL
      by_cases b : q < 0
      · rw [if_pos b]
        refine .inr ⟨_, rfl, d, fun z => ?_⟩
        have := dgs_inj (z.trans dgs_zero.symm)
        omega
      · rw [if_neg b]
        exact .inl d
    · rw [if_neg a]
      exact .inr ⟨_, _, rfl, no_n, head_ok.mpr ⟨t, a, rfl⟩, tail_ok.mpr ⟨q, rfl⟩⟩

end
end K09
namespace K09
open PySem PySem.Spec PyProof.Rows L2 Rs
local macro_rules | `(tactic| walk_at "om") => `(tactic| first | omega | (dsimp only; omega))
local macro_rules | `(tactic| walk_at "side") => `(tactic| first | omega | (dsimp only; omega) | decide | (unfold CMul; omega) | (unfold CDiv; omega) | (unfold CPow; omega) | exact wide_div (b := 64) (by omega) (by omega) (by decide) (by decide))
local macro_rules | `(tactic| walk_at "hp") => `(tactic| first | assumption | exact upd_same)
local macro_rules | `(tactic| walk_at "sq") => `(tactic| first | assumption | exact SqL.of (by assumption) | exact SqL.of upd_same)
local macro_rules | `(tactic| walk_at "st") => `(tactic| first
  | refine ⟨_, rfl, ?_⟩
  | (refine ⟨_, _, rfl, rfl, And.intro ?side ?_⟩; (case side => walk_at "side"))
  | refine ⟨_, _, rfl, rfl, ?_⟩
  | (refine' ⟨_, _, _, _, rfl, rfl, SqL.of ?hp, ?atx, ?_⟩; (case hp => walk_at "hp"); (case atx => exact rfl))
  | (refine' ⟨_, _, _, _, rfl, rfl, ?hp, ?atx, ?_⟩; (case hp => walk_at "hp"); (case atx => exact rfl))
  | (refine' ⟨_, _, rfl, Or.inl ?sq, ?_⟩; (case sq => walk_at "sq"))
  | refine Or.inl ⟨_, rfl, ?_⟩
  | refine Or.inr ⟨_, rfl, ?_⟩)
local macro_rules | `(tactic| walk_at "evd") => `(tactic| first
  | exact evd_int
  | exact evd_str
  | exact evd_non
  | exact evd_bl
  | exact evd_nil
  | (refine evd_cons ?_ (fun _ => ?_) <;> walk_at "evd")
  | (refine evd_tup ?_ (Nat.le_of_ble_eq_true rfl); walk_at "evd"))

section
variable {P : Program} {w : World} {K : PySem.W.Frag} {mg : Str → Option Value} {base : Heap}
theorem tl_length (x : Str) : (TL.tl x).length = x.length := by
  unfold TL.tl Str.length
  rw [Array.length_toList]

/-! texts read back -/
theorem sub_one {x y : Str} {s : Nat} (ey : TL.tl y = [s]) : Builtin.Str.subAt x y 0 = decide ((TL.tl x).head? = some s) := by
  have ey2 : y.cps.toList = [s] := ey
  have ly : y.length = 1 := by
    have : y.cps.toList.length = y.length := Array.length_toList
    rw [← this, ey2]
    rfl
  rw [PySem.StrLaws.subAt_eq, ly, ey2, List.drop_zero]
  show (List.take 1 (TL.tl x) == [s]) = _
  cases TL.tl x with
  | nil => rfl
  | cons a r =>
    rw [Bool.eq_iff_iff]
    simp
theorem starts_one {x y : Str} {s : Nat} (ey : TL.tl y = [s]) : Txt.startswith x y = decide ((TL.tl x).head? = some s) := by
  unfold Txt.startswith
  rw [sub_one ey]
  have ly : y.length = 1 := by
    rw [← tl_length, ey]
    rfl
  cases h : TL.tl x with
  | nil => simp
  | cons a r =>
    have lx : x.length = r.length + 1 := by
      rw [← tl_length, h]
      rfl
    rw [decide_eq_true (show 0 + y.length ≤ x.length by omega), Bool.true_and]
theorem rp_hit {x y : Str} {s : Nat} {r : List Nat} (ey : TL.tl y = [s]) (ex : TL.tl x = s :: r) : TL.tl (Txt.removeprefix x y) = r := by
  unfold Txt.removeprefix
  rw [sub_one ey, ex]
  have ly : y.length = 1 := by
    rw [← tl_length, ey]
    rfl
  have lx : x.length = r.length + 1 := by
    rw [← tl_length, ex]
    rfl
  simp only [List.head?_cons, decide_true, if_true]
  unfold Txt.affix
  dsimp only
  rw [if_neg (by rw [beq_iff_eq, ly, lx]; omega), ly, TL.tl_strSub_end, ex]
  rfl
theorem rp_miss {x y : Str} {s : Nat} (ey : TL.tl y = [s]) (ex : (TL.tl x).head? ≠ some s) : Txt.removeprefix x y = x := by
  unfold Txt.removeprefix
  rw [sub_one ey, decide_eq_false ex]
  rfl
theorem digit_one {c : Nat} (h : 48 ≤ c ∧ c ≤ 57) : Unicode.isDigit c = true := by
  obtain ⟨a, b⟩ := h
  have : c = 48 ∨ c = 49 ∨ c = 50 ∨ c = 51 ∨ c = 52 ∨ c = 53 ∨ c = 54 ∨ c = 55 ∨ c = 56 ∨ c = 57 := by omega
  rcases this with h | h | h | h | h | h | h | h | h | h <;> (subst h; decide +kernel)

/-! any short text of common signs, read -/
def Asc (x : Str) : Prop := ∀ c ∈ TL.tl x, c < 128
def optI : Option Int → V
  | some n => .int n
  | none => .non
theorem dig128 : ∀ c : Nat, c < 128 → Unicode.isDigit c = decide (48 ≤ c ∧ c ≤ 57) := by decide +kernel
theorem asc_is {x : Str} (h : Asc x) : Txt.isascii x = true := by
  unfold Txt.isascii
  rw [Array.all_eq_true']
  intro c hc
  exact decide_eq_true (h c (Array.mem_toList_iff.mpr hc))
theorem asc_digit {x : Str} (h : Asc x) : Txt.isdigit x = decide (DigL (TL.tl x)) := by
  unfold Txt.isdigit
  rw [Bool.eq_iff_iff, Bool.and_eq_true, Array.all_eq_true']
  simp only [decide_eq_true_eq]
  have l : x.length = (TL.tl x).length := (tl_length x).symm
  constructor
  · rintro ⟨a, b⟩
    refine ⟨fun e => by rw [l, e] at a; exact absurd a (Nat.lt_irrefl _), fun c hc => ?_⟩
    have z := b c (Array.mem_toList_iff.mp hc)
    rw [dig128 c (h c hc)] at z
    exact of_decide_eq_true z
  · rintro ⟨a, b⟩
    refine ⟨by rw [l]; exact List.length_pos_iff.mpr a, fun c hc => ?_⟩
    have hc : c ∈ TL.tl x := Array.mem_toList_iff.mpr hc
    rw [dig128 c (h c hc)]
    exact decide_eq_true (b c hc)
theorem dash_tl {x : Str} : TL.tl (Txt.removeprefix x "-") = if (TL.tl x).head? = some 45 then (TL.tl x).tail else TL.tl x := by
  have ey : TL.tl (Str.ofString "-") = [45] := by decide
  by_cases h : (TL.tl x).head? = some 45
  · rw [if_pos h]
    cases hx : TL.tl x with
    | nil => rw [hx] at h; cases h
    | cons c r =>
      rw [hx] at h
      injection h with h
      subst h
      exact rp_hit ey hx
  · rw [if_neg h]
    exact congrArg TL.tl (rp_miss ey h)
theorem asc_sub {x y : Str} (h : Asc x) (s : ∀ c ∈ TL.tl y, c ∈ TL.tl x) : Asc y := fun c hc => h c (s c hc)
def spWG : Sp := fun vs H Q _ => ∃ w : Str, vs = [.str w] ∧ w.length ≤ 400 ∧ Asc w ∧ Q (optI (wholeL (TL.tl w))) H
theorem ok_wholeG (T : Txt K mg) : FnOk P w K mg base CX0 1 T.a_whole_in T.d_whole_in ["word"] spWG := by
  refine T.F_whole_in.ok sc_whole_in (fun vs H Q E h => ?_) (fun cdv A outer s H vs Q E hr h => ?_)
  · obtain ⟨x, rfl, _⟩ := h
    rfl
  · obtain ⟨x, rfl, hl, ha, k⟩ := h
    have nd := sc_whole_in.nd
    refine ⟨_, (pss_cons (ps_set (i := 1) nd rfl (Or.inl rfl) (pe_m1 PySem.F.slot_str_removeprefix PySem.F.type_str_removeprefix mt_removeprefix (pv 0) pe_str))
    (pss_one (ps_ret (pe_ifExp (PW.pt (pw_and (pt_val (pe_m0 PySem.F.slot_str_isascii PySem.F.type_str_isascii mt_isascii (pv 1))) (pw_and1 (pt_val (pe_m0 PySem.F.slot_str_isdigit PySem.F.type_str_isdigit mt_isdigit (pv 1)))))) (pe_callTy call_int_str (by rfl) T.z_int (by decide +kernel) (pa_cons (pv 0) pa_nil)) pe_non)))), ?_⟩
    have ds : ∀ c ∈ TL.tl (Txt.removeprefix x "-"), c ∈ TL.tl x := fun c hc => by
      rw [dash_tl] at hc
      split at hc
      · exact List.mem_of_mem_tail hc
      · exact hc
    have ad := asc_sub ha ds
    refine asg_go ?_
    refine ⟨_, rfl, ⟨_, rfl⟩, _, _, rfl, rfl, by have := sizeLine_eq; omega, ?_⟩
    dsimp only [gName]
    refine ret_go ?_
    refine ⟨_, rfl, ⟨_, rfl⟩, _, rfl, rfl, trivial, _, rfl, ifT (asc_is ad) ?_⟩
    refine ⟨_, rfl, ⟨_, rfl⟩, _, rfl, rfl, trivial, _, rfl, ?_⟩
    rw [show Txt.isdigit (Txt.removeprefix x (Str.ofString "-")) = _ from asc_digit ad]
    rw [show TL.tl (Txt.removeprefix x "-") = _ from dash_tl]
    unfold wholeL at k
    by_cases h : (TL.tl x).head? = some 45
    · rw [if_pos h] at k ⊢
      obtain ⟨r, hr2⟩ : ∃ r, TL.tl x = 45 :: r := by
        cases hx : TL.tl x with
        | nil => rw [hx] at h; cases h
        | cons c r =>
          rw [hx] at h
          injection h with h
          exact ⟨r, by rw [h]⟩
      refine ifD (fun d => ?_) (fun d => ?_)
      · rw [if_pos d] at k
        rw [hr2] at d k
        exact ⟨_, rfl, x, _, rfl, PySem.intText_neg hr2 d.2 d.1 (by omega), by omega, k⟩
      · rw [if_neg d] at k
        exact k
    · rw [if_neg h] at k ⊢
      refine ifD (fun d => ?_) (fun d => ?_)
      · rw [if_pos d] at k
        exact ⟨_, rfl, x, _, rfl, PySem.intText_digits d.2 d.1 (by omega), by omega, k⟩
      · rw [if_neg d] at k
        exact k
def spFG : Sp := fun vs H Q _ => ∃ w : Str, vs = [.str w] ∧ w.length ≤ 400 ∧ Asc w ∧ Q (optI (factorL (TL.tl w))) H
theorem ok_factorG (T : Txt K mg) : FnOk P w K mg base CX0 2 T.a__factor T.d__factor ["word"] spFG := by
  have G_whole_in : FnOk P w K mg base CX0 1 T.a_whole_in T.d_whole_in ["word"] spWG := ok_wholeG T
  refine T.F__factor.ok sc__factor (fun vs H Q E h => ?_) (fun cdv A outer s H vs Q E hr h => ?_)
  · obtain ⟨x, rfl, _⟩ := h
    rfl
  · obtain ⟨x, rfl, hl, ha, k⟩ := h
    have nd := sc__factor.nd
    refine ⟨_, (pss_cons (ps_if (pt_cmpR op_eq (pv 0) pe_str (nomark _)) (pss_one (ps_ret pe_int)) pss_nil)
    (pss_cons (ps_if (pt_cmpR op_eq (pv 0) pe_str (nomark _)) (pss_one (ps_ret (pe_un un_neg pe_int))) pss_nil)
    (pss_one (ps_ret (pe_call G_whole_in (hr.mono (by first | decide | omega)) (by rfl) T.m_whole_in T.k_whole_in T.b_whole_in .nil pass0 (pa_cons (pv 0) pa_nil)))))), ?_⟩
    have ee : TL.tl (Str.ofString "") = [] := by decide
    have ed : TL.tl (Str.ofString "-") = [45] := by decide
    have eqv : ∀ {y : Str}, decide (V.str x = V.str y) = decide (TL.tl x = TL.tl y) := fun {y} => decide_eq_decide.mpr ⟨fun e => by injection e with e; rw [e], fun e => by rw [tl_inj e]⟩
    unfold factorL at k
    refine seqif_go (tst_go ?_)
    refine ⟨_, rfl, rfl, _, rfl, ?_⟩
    rw [eqv, ee]
    refine ifD (fun h1 => ?_) (fun h1 => ?_)
    · rw [if_pos h1] at k
      exact k
    rw [if_neg h1] at k
    dsimp only [tNext]
    refine seqif_go (tst_go ?_)
    refine ⟨_, rfl, rfl, _, rfl, ?_⟩
    rw [eqv, ed]
    refine ifD (fun h2 => ?_) (fun h2 => ?_)
    · rw [if_pos h2] at k
      exact ⟨_, rfl, k⟩
    rw [if_neg h2] at k
    dsimp only [tNext]
    refine ret_go ?_
    exact ⟨_, rfl, x, rfl, hl, ha, k⟩
/-- what the parts of an upper text tell -/
inductive UpR (w : List Nat) : Option Int → Option Int → Prop
  | no : 110 ∉ w → UpR w (some 0) (wholeL w)
  | yes (a b : List Nat) : w = a ++ 110 :: b → 110 ∉ a → UpR w (factorL a) (plusL b)
theorem UpR.of {t q : Int} {T Pl : Option Int} (h : UpR (TL.tl (upperS t q)) T Pl) : T = some t ∧ Pl = some q := by
  rw [upper_eq] at h
  by_cases a : t = 0
  · rw [if_pos a] at h
    cases h with
    | no _ => exact ⟨by rw [a], wholeL_int q⟩
    | yes x y e _ => exact absurd (by rw [e]; exact List.mem_append_right _ (List.mem_cons_self ..)) no_n0
  · rw [if_neg a] at h
    cases h with
    | no n => exact absurd (List.mem_append_right _ (List.mem_cons_self ..)) n
    | yes x y e n =>
      obtain ⟨e1, e2⟩ := cut_at no_n n e
      rw [← e1, ← e2]
      exact ⟨factorL_head, plusL_tail⟩
theorem UpR.bound {w : List Nat} {t q : Int} (h : UpR w (some t) (some q)) : t.natAbs < 10 ^ w.length ∧ q.natAbs < 10 ^ w.length := by
  have up : ∀ {a b : Nat} {m : Nat}, m < 10 ^ a → a ≤ b → m < 10 ^ b := fun {a b m} h l => Nat.lt_of_lt_of_le h (Nat.pow_le_pow_right (by decide) l)
  have pos : ∀ n, 0 < 10 ^ n := fun n => Nat.pow_pos (by decide)
  generalize hT : some t = T at h
  generalize hQ : some q = Pl at h
  cases h with
  | no _ =>
    cases hT
    exact ⟨pos _, wholeL_bound hQ.symm⟩
  | yes a b e _ =>
    have ln : w.length = a.length + 1 + b.length := by rw [e, List.length_append, List.length_cons]; omega
    have hT := hT.symm
    have hQ := hQ.symm
    have one : 1 < 10 ^ w.length := Nat.lt_of_lt_of_le (show 1 < 10 ^ 1 by decide) (Nat.pow_le_pow_right (by decide) (by omega))
    constructor
    · unfold factorL at hT
      split at hT
      · cases hT
        exact one
      · split at hT
        · cases hT
          exact one
        · exact up (wholeL_bound hT) (by omega)
    · unfold plusL at hQ
      split at hQ
      · cases hQ
        exact pos _
      · refine up (wholeL_bound hQ) ?_
        split
        · rw [List.length_tail]
          omega
        · omega
def spUG : Sp := fun vs H Q _ => ∃ u : Str, vs = [.str u] ∧ u.length ≤ 400 ∧ Asc u ∧ ∀ T Pl p H', UpR (TL.tl u) T Pl → Same H H' → H' p = some (.tup [optI T, optI Pl]) → Q (.ref p) H'
theorem ok_upartsG (T : Txt K mg) : FnOk P w K mg base CX0 3 T.a__upper_parts T.d__upper_parts ["upper"] spUG := by
  have G_whole_in : FnOk P w K mg base CX0 1 T.a_whole_in T.d_whole_in ["word"] spWG := ok_wholeG T
  have G__factor : FnOk P w K mg base CX0 2 T.a__factor T.d__factor ["word"] spFG := ok_factorG T
  refine T.F__upper_parts.ok sc__upper_parts (fun vs H Q E h => ?_) (fun cdv A outer s H vs Q E hr h => ?_)
  · obtain ⟨x, rfl, _⟩ := h
    rfl
  · obtain ⟨x, rfl, hl, ha, k⟩ := h
    have nd := sc__upper_parts.nd
    refine ⟨_, (pss_cons (ps_asg (pe_partition (pv 0) pe_str) (pg_tup rfl (pgs_cons (pg_name (i := 1) nd rfl (Or.inl rfl)) (pgs_cons (pg_name (i := 2) nd rfl (Or.inl rfl)) (pgs_cons (pg_name (i := 3) nd rfl (Or.inl rfl)) pgs_nil)))))
    (pss_cons (ps_if (pt_cmpR op_eq (pv 2) pe_str (nomark _)) (pss_one (ps_ret (pe_tup (pa_cons pe_int (pa_cons (pe_call G_whole_in (hr.mono (by first | decide | omega)) (by rfl) T.m_whole_in T.k_whole_in T.b_whole_in .nil pass0 (pa_cons (pv 1) pa_nil)) pa_nil))))) pss_nil)
    (pss_cons (ps_set (i := 4) nd rfl (Or.inl rfl) (pe_ifExp (pt_cmpR op_eq (pv 3) pe_str (nomark _)) pe_int (pe_call G_whole_in (hr.mono (by first | decide | omega)) (by rfl) T.m_whole_in T.k_whole_in T.b_whole_in .nil pass0 (pa_cons (pe_m1 PySem.F.slot_str_removeprefix PySem.F.type_str_removeprefix mt_removeprefix (pv 3) pe_str) pa_nil))))
    (pss_one (ps_ret (pe_tup (pa_cons (pe_call G__factor (hr.mono (by first | decide | omega)) (by rfl) T.m__factor T.k__factor T.b__factor .nil pass0 (pa_cons (pv 1) pa_nil)) (pa_cons (pv 4) pa_nil)))))))), ?_⟩
    have en : TL.tl (Str.ofString "n") = [110] := by decide
    have ee : TL.tl (Str.ofString "") = [] := by decide
    have e9 := sizeLine_eq
    have lx : (TL.tl x).length = x.length := tl_length x
    by_cases h0 : 110 ∈ TL.tl x
    · obtain ⟨a, b, e, na⟩ := cut_first h0
      have ex : x = (⟨a.toArray⟩ : Str) ++ Str.ofString "n" ++ (⟨b.toArray⟩ : Str) := tl_inj (by
        rw [e, TL.tl_append, TL.tl_append, en, TL.tl_mk, TL.tl_mk, List.append_assoc]
        rfl)
      have la : (⟨a.toArray⟩ : Str).length ≤ 400 := by
        rw [← tl_length, TL.tl_mk]
        have := congrArg List.length e
        rw [List.length_append] at this
        omega
      have lb : (⟨b.toArray⟩ : Str).length ≤ 400 := by
        rw [← tl_length, TL.tl_mk]
        have := congrArg List.length e
        rw [List.length_append, List.length_cons] at this
        omega
      have aa : Asc (⟨a.toArray⟩ : Str) := asc_sub ha fun c hc => by
        rw [TL.tl_mk] at hc
        rw [e]
        exact List.mem_append_left _ hc
      have ab : Asc (⟨b.toArray⟩ : Str) := asc_sub ha fun c hc => by
        rw [TL.tl_mk] at hc
        rw [e]
        exact List.mem_append_right _ (List.mem_cons_of_mem _ hc)
      refine asg_go ?_
      refine ⟨_, rfl, ⟨_, rfl⟩, _, _, rfl, rfl, by decide, by omega, fun p np => ?_⟩
      rw [show Txt.partition x (Str.ofString "n") = _ from (congrArg (fun z => Txt.partition z (Str.ofString "n")) ex).trans (TL.partition_app (y := Str.ofString "n") en (by rw [TL.tl_mk]; exact na))]
      refine ⟨p, _, rfl, SqT.of upd_same, rfl, _, _, rfl, _, _, rfl, _, _, rfl, rfl, ?_⟩
      dsimp only [gName]
      refine seqif_go (tst_go ?_)
      refine ⟨_, rfl, rfl, _, rfl, ifF (by decide +kernel) ?_⟩
      dsimp only [tNext]
      have s1 := same_new (o := .tup [.str (⟨a.toArray⟩ : Str), .str (Str.ofString "n"), .str (⟨b.toArray⟩ : Str)]) np
      refine seq_k (fun σ' H' => σ' = [some (.str x), some (.str (⟨a.toArray⟩ : Str)), some (.str (Str.ofString "n")), some (.str (⟨b.toArray⟩ : Str)), some (optI (plusL b))] ∧ Same H H') (fun σ' H' hC => ?_) (fun R hR => ?_)
      · obtain ⟨rfl, s2⟩ := hC
        refine ret_go ?_
        refine ⟨_, rfl, _, rfl, la, aa, _, rfl, szL (Nat.le_of_ble_eq_true rfl), fun p2 np2 => ?_⟩
        rw [TL.tl_mk]
        exact k _ _ _ _ (.yes a b e na) (s2.trans (same_new np2)) upd_same
      · refine ⟨_, rfl, rfl, _, rfl, ?_⟩
        rw [show decide (V.str (⟨b.toArray⟩ : Str) = V.str (Str.ofString "")) = decide (b = []) from decide_eq_decide.mpr ⟨fun z => by injection z with z; have z := congrArg TL.tl z; rw [TL.tl_mk, ee] at z; exact z, fun z => by rw [z]; rfl⟩]
        refine ifD (fun hb => ?_) (fun hb => ?_)
        · refine hR _ _ ⟨?_, s1⟩
          unfold plusL
          rw [if_pos hb]
          rfl
        · have ep : TL.tl (Str.ofString "+") = [43] := by decide
          have rp : TL.tl (Txt.removeprefix (⟨b.toArray⟩ : Str) (Str.ofString "+")) = if b.head? = some 43 then b.tail else b := by
            by_cases h : b.head? = some 43
            · rw [if_pos h]
              cases hx : b with
              | nil => rw [hx] at h; cases h
              | cons c r =>
                rw [hx] at h
                injection h with h
                subst h
                exact rp_hit ep (TL.tl_mk _)
            · rw [if_neg h]
              rw [rp_miss ep (by rw [TL.tl_mk]; exact h), TL.tl_mk]
          have lr : (Txt.removeprefix (⟨b.toArray⟩ : Str) (Str.ofString "+")).length ≤ 400 := by
            rw [← tl_length, rp]
            rw [← tl_length, TL.tl_mk] at lb
            split
            · rw [List.length_tail]
              omega
            · exact lb
          have ar : Asc (Txt.removeprefix (⟨b.toArray⟩ : Str) (Str.ofString "+")) := asc_sub ab fun c hc => by
            rw [rp] at hc
            rw [TL.tl_mk]
            split at hc
            · exact List.mem_of_mem_tail hc
            · exact hc
          refine ⟨_, rfl, ⟨_, rfl⟩, _, _, rfl, rfl, by omega, _, rfl, lr, ar, ?_⟩
          refine hR _ _ ⟨?_, s1⟩
          rw [rp]
          unfold plusL
          rw [if_neg hb]
          rfl
    · refine asg_go ?_
      refine ⟨_, rfl, ⟨_, rfl⟩, _, _, rfl, rfl, by decide, by omega, fun p np => ?_⟩
      rw [TL.partition_none (y := Str.ofString "n") en h0]
      refine ⟨p, _, rfl, SqT.of upd_same, rfl, _, _, rfl, _, _, rfl, _, _, rfl, rfl, ?_⟩
      dsimp only [gName]
      refine seqif_go (tst_go ?_)
      refine ⟨_, rfl, rfl, _, rfl, ifT (by decide +kernel) ?_⟩
      refine ret_go ?_
      refine ⟨_, rfl, x, rfl, hl, ha, szL (Nat.le_of_ble_eq_true rfl), fun p2 np2 => ?_⟩
      exact k (some 0) _ _ _ (.no h0) ((same_new np).trans (same_new np2)) upd_same

end
end K09
namespace K09
open PySem PySem.Spec PyProof.Rows L2 Rs
local macro_rules | `(tactic| walk_at "om") => `(tactic| first | omega | (dsimp only; omega))
local macro_rules | `(tactic| walk_at "side") => `(tactic| first | omega | (dsimp only; omega) | decide | (unfold CMul; omega) | (unfold CDiv; omega) | (unfold CPow; omega) | exact wide_div (b := 64) (by omega) (by omega) (by decide) (by decide))
local macro_rules | `(tactic| walk_at "hp") => `(tactic| first | assumption | exact upd_same)
local macro_rules | `(tactic| walk_at "sq") => `(tactic| first | assumption | exact SqL.of (by assumption) | exact SqL.of upd_same)
local macro_rules | `(tactic| walk_at "st") => `(tactic| first
  | refine ⟨_, rfl, ?_⟩
  | (refine ⟨_, _, rfl, rfl, And.intro ?side ?_⟩; (case side => walk_at "side"))
  | refine ⟨_, _, rfl, rfl, ?_⟩
  | (refine' ⟨_, _, _, _, rfl, rfl, SqL.of ?hp, ?atx, ?_⟩; (case hp => walk_at "hp"); (case atx => exact rfl))
  | (refine' ⟨_, _, _, _, rfl, rfl, ?hp, ?atx, ?_⟩; (case hp => walk_at "hp"); (case atx => exact rfl))
  | (refine' ⟨_, _, rfl, Or.inl ?sq, ?_⟩; (case sq => walk_at "sq"))
  | refine Or.inl ⟨_, rfl, ?_⟩
  | refine Or.inr ⟨_, rfl, ?_⟩)
local macro_rules | `(tactic| walk_at "evd") => `(tactic| first
  | exact evd_int
  | exact evd_str
  | exact evd_non
  | exact evd_bl
  | exact evd_nil
  | (refine evd_cons ?_ (fun _ => ?_) <;> walk_at "evd")
  | (refine evd_tup ?_ (Nat.le_of_ble_eq_true rfl); walk_at "evd"))

section
variable {P : Program} {w : World} {K : PySem.W.Frag} {mg : Str → Option Value} {base : Heap}
theorem cutS_tail {x : Str} : TL.tl (cutS x (some 1) none) = (TL.tl x).drop 1 := by
  show (((x.cps.toList.drop (HT.sIx x.length 0 (some 1))).take (HT.sIx x.length x.length none - HT.sIx x.length 0 (some 1)))) = _
  have e : HT.sIx x.length 0 (some 1) = min 1 x.length := HT.sIx_nat x.length 0 1
  have l : (TL.tl x).length = x.length := tl_length x
  have l2 : x.cps.toList.length = x.length := l
  rw [HT.sIx_none, e]
  show (x.cps.toList.drop _).take _ = x.cps.toList.drop 1
  rcases Nat.lt_or_ge 0 x.length with h | h
  · rw [Nat.min_eq_left (by omega), ← l2, ← List.length_drop, List.take_length]
  · have z : x.cps.toList = [] := List.length_eq_zero_iff.mp (by omega)
    rw [z, List.drop_nil, List.drop_nil, List.take_nil]

theorem un65 {k : Nat} {A : Around} (r : Room k A) : A.units + 65 < cLine := by
  have := r.un
  omega
theorem par_parts {S : List Nat} : ∀ {l acc a b : List Nat}, TL.par S acc l = some (a, b) → (∀ x ∈ a, x ∈ acc ∨ x ∈ l) ∧ (∀ x ∈ b, x ∈ l) ∧ a.length ≤ acc.length + l.length ∧ b.length ≤ l.length
  | [], acc, a, b, h => by cases h
  | c :: r, acc, a, b, h => by
    by_cases p : TL.pre S (c :: r) = true
    · rw [TL.par_hit p] at h
      cases h
      exact ⟨fun x hx => .inl hx, fun x hx => List.mem_of_mem_drop hx, by omega, by rw [List.length_drop]; omega⟩
    · rw [TL.par_miss (by simpa using p)] at h
      obtain ⟨h1, h2, h3, h4⟩ := par_parts h
      refine ⟨fun x hx => ?_, fun x hx => List.mem_cons_of_mem _ (h2 x hx), ?_, ?_⟩
      · rcases h1 x hx with z | z
        · rcases List.mem_append.mp z with z | z
          · exact .inl z
          · rw [List.mem_singleton] at z
            subst z
            exact .inr (List.mem_cons_self ..)
        · exact .inr (List.mem_cons_of_mem _ z)
      · rw [List.length_append, List.length_singleton] at h3
        rw [List.length_cons]
        omega
      · rw [List.length_cons]
        omega
theorem partition_small {x y : Str} (hy : TL.tl y ≠ []) : ∃ a m b, Txt.partition x y = (a, m, b) ∧ (∀ c ∈ TL.tl a, c ∈ TL.tl x) ∧ (∀ c ∈ TL.tl b, c ∈ TL.tl x) ∧ a.length ≤ x.length ∧ b.length ≤ x.length := by
  have e := TL.partition_par x y hy
  have lx := tl_length x
  cases h : TL.par (TL.tl y) [] (TL.tl x) with
  | none =>
    rw [h] at e
    exact ⟨_, _, _, e, fun c hc => hc, fun c hc => (nomatch (show c ∈ ([] : List Nat) from hc)), Nat.le_refl _, Nat.zero_le _⟩
  | some z =>
    obtain ⟨a, b⟩ := z
    rw [h] at e
    obtain ⟨h1, h2, h3, h4⟩ := par_parts h
    refine ⟨_, _, _, e, fun c hc => ?_, fun c hc => ?_, ?_, ?_⟩
    · rw [TL.tl_mk] at hc
      exact (h1 c hc).resolve_left (fun z => nomatch z)
    · rw [TL.tl_mk] at hc
      exact h2 c hc
    · have q := tl_length (⟨a.toArray⟩ : Str)
      rw [TL.tl_mk] at q
      rw [List.length_nil] at h3
      omega
    · have q := tl_length (⟨b.toArray⟩ : Str)
      rw [TL.tl_mk] at q
      omega
/-- the program's own text, whatever the divisor -/
def textS (t q c : Int) : Str := if c > 1 then Str.ofString "(" ++ (upperS t q ++ (Str.ofString ")/" ++ nS c)) else upperS t q
theorem textS_form {t q c : Int} (h : 1 ≤ c) : textS t q c = formText t q c := by
  unfold textS formText
  by_cases e : c = 1
  · rw [if_pos e, if_neg (by omega)]
  · rw [if_neg e, if_pos (by omega)]
def spFTG : Sp := fun vs H Q _ => ∃ (t q c : Int), vs = [.int t, .int q, .int c] ∧ Mid t ∧ Mid q ∧ Mid c ∧ Q (.str (textS t q c)) H
theorem ok_ftextG (T : Txt K mg) : FnOk P w K mg base CX0 2 T.a__text T.d__text ["times", "plus", "by"] spFTG := by
  have G__upper : FnOk P w K mg base CX0 1 T.a__upper T.d__upper ["times", "plus"] spUpper := ok_upper T
  refine T.F__text.ok sc__text (fun vs H Q E h => ?_) (fun cdv A outer s H vs Q E hr h => ?_)
  · obtain ⟨t, q, c, rfl, _⟩ := h
    rfl
  · obtain ⟨t, q, c, rfl, mt, mq, mc, k⟩ := h
    have nd := sc__text.nd
    refine ⟨_, (pss_cons (ps_set (i := 3) nd rfl (Or.inl rfl) (pe_call G__upper (hr.mono (by first | decide | omega)) (by rfl) T.m__upper T.k__upper T.b__upper .nil pass0 (pa_cons (pv 0) (pa_cons (pv 1) pa_nil))))
    (pss_one (ps_ret (pe_ifExp (pt_cmpR op_gt (pv 2) pe_int (nomark _)) (pe_joined (.cons pe_str (.cons (pe_fmt (pv 3)) (.cons pe_str (.cons (pe_fmt (pv 2)) .nil))))) (pv 3))))), ?_⟩
    have b1 := upper_len mt mq
    have b2 := nS_mid mc
    have e9 := sizeLine_eq
    have w0 : Str.empty.length = 0 := rfl
    have w1 : (Str.ofString "(").length = 1 := by decide
    have w2 : (Str.ofString ")/").length = 2 := by decide
    have b2' : (Str.ofString (toString c)).length ≤ 401 := b2
    refine ⟨_, rfl, _, rfl, t, q, rfl, mt, mq, ?_⟩
    dsimp only [gName]
    unfold textS at k
    refine ⟨_, rfl, _, _, rfl, rfl, _, rfl, ifD (fun e => ?_) (fun e => ?_)⟩
    · rw [if_pos e] at k
      refine ⟨_, rfl, by simp only [Str.length_append]; omega, _, rfl, .inl ⟨_, rfl, by omega, _, rfl, by simp only [Str.length_append]; omega, _, rfl, by simp only [Str.length_append]; omega, _, rfl, .inr ⟨_, rfl, log_big mc.big, _, rfl, by simp only [Str.length_append]; omega, ?_⟩⟩⟩
      show Q (.str (Str.empty ++ Str.ofString "(" ++ upperS t q ++ Str.ofString ")/" ++ nS c)) H
      simp only [Str.empty_append, Str.append_assoc]
      exact k
    · rw [if_neg e] at k
      exact ⟨_, rfl, k⟩
/-- a text is one of a form -/
def IsForm (s : Str) : Prop := ∃ t q c : Int, 1 ≤ c ∧ s = formText t q c
/-- the upper part of a text, and what its divisor tells -/
inductive PaR (s : Str) : Str → Option Int → Prop
  | flat : (TL.tl s).head? ≠ some 40 → PaR s s (some 1)
  | over (x a m b : Str) : TL.tl s = 40 :: TL.tl x → Txt.partition x (Str.ofString ")/") = (a, m, b) → PaR s a (wholeL (TL.tl b))
theorem no_par {t q : Int} {x : Nat} (hx : x = 40 ∨ x = 41) : x ∉ TL.tl (upperS t q) := fun h => by
  have := upper_signs (t := t) (q := q) x h
  omega
theorem over_tl {t q c : Int} (h : c ≠ 1) : TL.tl (formText t q c) = 40 :: (TL.tl (upperS t q) ++ 41 :: 47 :: intL c) := by
  unfold formText
  rw [if_neg h, TL.tl_append, TL.tl_append, TL.tl_append, nS_tl]
  rfl
theorem PaR.of {s u : Str} {B : Option Int} (h : PaR s u B) {t q c : Int} (e : s = formText t q c) : u = upperS t q ∧ B = some c := by
  by_cases c1 : c = 1
  · have e1 : s = upperS t q := e.trans (if_pos c1)
    cases h with
    | flat _ => exact ⟨e1, by rw [c1]⟩
    | over x a m b ex _ =>
      rw [e1] at ex
      exact absurd (by rw [ex]; exact List.mem_cons_self ..) (no_par (t := t) (q := q) (.inl rfl))
  · have e1 := over_tl (t := t) (q := q) c1
    rw [← e] at e1
    cases h with
    | flat n => exact absurd (by rw [e1]; rfl) n
    | over x a m b ex ep =>
      rw [e1] at ex
      injection ex with _ ex
      have e41 : TL.tl (Str.ofString ")/") = [41, 47] := by decide
      have hx : x = upperS t q ++ Str.ofString ")/" ++ nS c := tl_inj (by
        rw [← ex, TL.tl_append, TL.tl_append, e41, nS_tl, List.append_assoc]
        rfl)
      rw [hx, TL.partition_app (y := Str.ofString ")/") e41 (no_par (.inr rfl))] at ep
      cases ep
      exact ⟨rfl, by rw [nS_tl, wholeL_int]⟩
theorem form_of {s u : Str} {t q c : Int} (h : PaR s u (some c)) (e : textS t q c = s) : 1 ≤ c ∧ s = formText t q c := by
  by_cases c1 : c > 1
  · exact ⟨by omega, by rw [← e, textS_form (by omega)]⟩
  · have e1 : s = upperS t q := by
      rw [← e]
      unfold textS
      rw [if_neg c1]
    generalize hB : some c = B at h
    cases h with
    | flat _ =>
      cases hB
      exact ⟨Int.le_refl _, by rw [← e, textS_form (Int.le_refl _)]⟩
    | over x a m b ex _ =>
      rw [e1] at ex
      exact absurd (by rw [ex]; exact List.mem_cons_self ..) (no_par (t := t) (q := q) (.inl rfl))
def optD : Option Int → PyData
  | some n => .int n
  | none => .none
theorem optD_ok {o : Option Int} : okD 0 (optD o) := by
  cases o <;> exact ⟨rfl, Nat.le_refl _⟩
theorem opt_dp {H : Hp} {o : Option Int} : Dp K H (optI o) (optD o) := by
  cases o
  · exact .non
  · exact .int _
def spPG : Sp := fun vs H Q _ => ∃ s : Str, vs = [.str s] ∧ s.length ≤ 400 ∧ Asc s ∧ (∀ t q c p H', 1 ≤ c → Mid t → Mid q → Mid c → s = formText t q c → Same H H' → H' p = some (.tup [.int t, .int q, .int c]) → Q (.ref p) H') ∧
  (¬ IsForm s → ∀ H', Same H H' → Q .non H')
theorem ok_partsG (T : Txt K mg) : FnOk P w K mg base CX0 4 T.a__parts T.d__parts ["text"] spPG := by
  have G_whole_in : FnOk P w K mg base CX0 1 T.a_whole_in T.d_whole_in ["word"] spWG := ok_wholeG T
  have G__upper_parts : FnOk P w K mg base CX0 3 T.a__upper_parts T.d__upper_parts ["upper"] spUG := ok_upartsG T
  have G__text : FnOk P w K mg base CX0 2 T.a__text T.d__text ["times", "plus", "by"] spFTG := ok_ftextG T
  refine T.F__parts.ok sc__parts (fun vs H Q E h => ?_) (fun cdv A outer s H vs Q E hr h => ?_)
  · obtain ⟨x, rfl, _⟩ := h
    rfl
  · obtain ⟨x, rfl, hl, ha, k1, k2⟩ := h
    have nd := sc__parts.nd
    refine ⟨_, (pss_cons (ps_set (i := 1) nd rfl (Or.inl rfl) (pv 0))
    (pss_cons (ps_set (i := 2) nd rfl (Or.inl rfl) pe_int)
    (pss_cons (ps_if (pt_val (pe_m1 PySem.F.slot_str_startswith PySem.F.type_str_startswith mt_startswith (pv 0) pe_str)) (pss_cons (ps_asg (pe_partition (pe_slice sl_str (pv 0) (po_some pe_int) po_none) pe_str) (pg_tup rfl (pgs_cons (pg_name (i := 1) nd rfl (Or.inl rfl)) (pgs_cons (pg_name (i := 3) nd rfl (Or.inl rfl)) (pgs_cons (pg_name (i := 4) nd rfl (Or.inl rfl)) pgs_nil)))))
    (pss_one (ps_set (i := 2) nd rfl (Or.inl rfl) (pe_call G_whole_in (hr.mono (by first | decide | omega)) (by rfl) T.m_whole_in T.k_whole_in T.b_whole_in .nil pass0 (pa_cons (pv 4) pa_nil))))) pss_nil)
    (pss_cons (ps_asg (pe_call G__upper_parts (hr.mono (by first | decide | omega)) (by rfl) T.m__upper_parts T.k__upper_parts T.b__upper_parts .nil pass0 (pa_cons (pv 1) pa_nil)) (pg_tup rfl (pgs_cons (pg_name (i := 5) nd rfl (Or.inl rfl)) (pgs_cons (pg_name (i := 6) nd rfl (Or.inl rfl)) pgs_nil))))
    (pss_cons (ps_if (PW.pt (pw_or (pt_cmpR (op_inTD rfl (un65 hr)) pe_non (pe_tup (pa_cons (pv 5) (pa_cons (pv 6) (pa_cons (pv 2) pa_nil)))) (by rfl)) (pw_or1 (pt_cmpR op_ne (pe_call G__text (hr.mono (by first | decide | omega)) (by rfl) T.m__text T.k__text T.b__text .nil pass0 (pa_cons (pv 5) (pa_cons (pv 6) (pa_cons (pv 2) pa_nil)))) (pv 0) (nomark _))))) (pss_one (ps_ret pe_non)) pss_nil)
    (pss_one (ps_ret (pe_tup (pa_cons (pv 5) (pa_cons (pv 6) (pa_cons (pv 2) pa_nil))))))))))), ?_⟩
    refine asg_go ⟨_, rfl, ?_⟩
    dsimp only [gName]
    have e9 := sizeLine_eq
    have lx := tl_length x
    have e40 : TL.tl (Str.ofString "(") = [40] := by decide
    have e41 : TL.tl (Str.ofString ")/") = [41, 47] := by decide
    refine asg_go ?_
    dsimp only [gName, tC]
    refine seq_k (fun σ' H' => ∃ (u : Str) (B : Option Int) (y3 y4 : Option V), σ' = [some (.str x), some (.str u), some (optI B), y3, y4, none, none] ∧ Same H H' ∧ PaR x u B ∧ u.length ≤ 400 ∧ Asc u ∧ (∀ n, B = some n → Mid n)) (fun σ' H' hC => ?_) (fun R hR => ?_)
    · obtain ⟨u, B, y3, y4, rfl, s1, pr, lu, au, mB⟩ := hC
      refine ⟨_, rfl, u, rfl, by omega, au, fun T' Pl p H2 up s2 hp => ?_⟩
      refine ⟨p, _, rfl, SqT.of hp, rfl, _, _, rfl, _, _, rfl, rfl, ?_⟩
      dsimp only [gName]
      have no : (T' = none ∨ Pl = none ∨ B = none) → ¬ IsForm x := fun z f => by
        obtain ⟨t, q, c, _, e⟩ := f
        obtain ⟨e1, e2⟩ := pr.of e
        rw [e1] at up
        obtain ⟨e3, e4⟩ := up.of
        rw [e2, e3, e4] at z
        rcases z with z | z | z <;> cases z
      refine seqif_go (or_go (tst_go ?_))
      have sh : SeqAt.shaped (.tuple [optD T', optD Pl, optD B]) = true := (okD.tuple (k := 0) (ds := [optD T', optD Pl, optD B]) fun d hd => by
        simp only [List.mem_cons, List.not_mem_nil, or_false] at hd
        rcases hd with rfl | rfl | rfl <;> exact optD_ok).shaped (by decide)
      have sn : SeqAt.shaped .none = true := okD.shaped (k := 0) ⟨rfl, Nat.le_refl _⟩ (by decide)
      refine ⟨_, rfl, _, rfl, _, rfl, szL (Nat.le_of_ble_eq_true rfl), fun p2 np2 => ⟨.none, [optD T', optD Pl, optD B], .non, .tup (SqT.of upd_same) (.cons opt_dp (.cons opt_dp (.cons opt_dp .nil))), sn, sh, _, rfl, ?_⟩⟩
      have s12 := (s1.trans s2).trans (same_new (o := .tup [optI T', optI Pl, optI B]) np2)
      cases hT : T' with
      | none =>
        refine ifT rfl ?_
        exact k2 (no (.inl hT)) _ (by rw [hT] at s12; exact s12)
      | some t =>
      cases hQ : Pl with
      | none =>
        refine ifT rfl ?_
        exact k2 (no (.inr (.inl hQ))) _ (by rw [hT, hQ] at s12; exact s12)
      | some q =>
      cases hB : B with
      | none =>
        refine ifT rfl ?_
        exact k2 (no (.inr (.inr hB))) _ (by rw [hT, hQ, hB] at s12; exact s12)
      | some c =>
      subst hT hQ hB
      refine ifF rfl (tst_go ?_)
      have lu2 := tl_length u
      obtain ⟨b1, b2⟩ := up.bound
      have pw : 10 ^ (TL.tl u).length ≤ bigN := pow_le (by have := bigK_eq; omega)
      have mt : Mid t := .inr (Nat.lt_of_lt_of_le b1 pw)
      have mq : Mid q := .inr (Nat.lt_of_lt_of_le b2 pw)
      have mc := mB c rfl
      refine ⟨_, rfl, _, rfl, _, rfl, t, q, c, rfl, mt, mq, mc, _, rfl, rfl, _, rfl, ?_⟩
      rw [show decide (V.str (textS t q c) = V.str x) = decide (textS t q c = x) from decide_eq_decide.mpr ⟨fun e => by injection e, fun e => by rw [e]⟩]
      by_cases e : textS t q c = x
      · rw [decide_eq_true e]
        refine ifF rfl ?_
        obtain ⟨c1, ex⟩ := form_of pr e
        dsimp only [tNext]
        refine ret_go ?_
        refine ⟨_, rfl, _, rfl, _, rfl, szL (Nat.le_of_ble_eq_true rfl), fun p3 np3 => ?_⟩
        exact k1 t q c _ _ c1 mt mq mc ex (s12.trans (same_new np3)) upd_same
      · rw [decide_eq_false e]
        refine ifT rfl ?_
        refine k2 (fun f => e ?_) _ s12
        obtain ⟨t2, q2, c2, c1, ex⟩ := f
        obtain ⟨e1, e2⟩ := pr.of ex
        rw [e1] at up
        obtain ⟨e3, e4⟩ := up.of
        injection e2 with e2
        injection e3 with e3
        injection e4 with e4
        rw [e2, e3, e4, textS_form c1, ex]
    · have sw : Txt.startswith x (Str.ofString "(") = decide ((TL.tl x).head? = some 40) := starts_one e40
      refine ⟨_, rfl, ⟨_, rfl⟩, _, _, rfl, rfl, _, rfl, ?_⟩
      rw [sw]
      refine ifD (fun h => ?_) (fun h => ?_)
      · obtain ⟨r, hr2⟩ : ∃ r, TL.tl x = 40 :: r := by
          cases hx : TL.tl x with
          | nil => rw [hx] at h; cases h
          | cons c r =>
            rw [hx] at h
            injection h with h
            exact ⟨r, by rw [h]⟩
        have cut : TL.tl (cutS x (some 1) none) = r := by
          rw [cutS_tail, hr2]
          rfl
        obtain ⟨a, m, b, ep, s1, s2, l1, l2⟩ := partition_small (x := cutS x (some 1) none) (y := Str.ofString ")/") (by rw [e41]; simp)
        have lc : (cutS x (some 1) none).length ≤ 399 := by
          rw [← tl_length, cut]
          rw [hr2, List.length_cons] at lx
          omega
        have sub : ∀ c ∈ TL.tl (cutS x (some 1) none), c ∈ TL.tl x := fun c hc => by
          rw [cut] at hc
          rw [hr2]
          exact List.mem_cons_of_mem _ hc
        have aa : Asc a := asc_sub ha fun c hc => sub c (s1 c hc)
        have ab : Asc b := asc_sub ha fun c hc => sub c (s2 c hc)
        refine asg_go ?_
        refine ⟨_, rfl, _, rfl, _, rfl, by omega, ⟨_, rfl⟩, _, _, rfl, rfl, by decide, by omega, fun p np => ?_⟩
        rw [ep]
        refine ⟨p, _, rfl, SqT.of upd_same, rfl, _, _, rfl, _, _, rfl, _, _, rfl, rfl, ?_⟩
        dsimp only [gName]
        refine ⟨_, rfl, b, rfl, by omega, ab, hR _ _ ⟨a, _, _, _, rfl, same_new np, .over _ a m b (by rw [hr2, cut]) ep, by omega, aa, fun n hn => ?_⟩⟩
        have z := wholeL_bound hn
        have lb := tl_length b
        exact .inr (Nat.lt_of_lt_of_le z (pow_le (by have := bigK_eq; omega)))
      · exact hR _ _ ⟨x, some 1, none, none, rfl, Same.refl _, .flat h, hl, ha, fun n hn => by cases hn; unfold Mid; decide⟩

end
end K09
namespace K09
open PySem PySem.Spec PyProof.Rows L2 Rs
local macro_rules | `(tactic| walk_at "om") => `(tactic| first | omega | (dsimp only; omega))
local macro_rules | `(tactic| walk_at "side") => `(tactic| first | omega | (dsimp only; omega) | decide | (unfold CMul; omega) | (unfold CDiv; omega) | (unfold CPow; omega) | exact wide_div (b := 64) (by omega) (by omega) (by decide) (by decide))
local macro_rules | `(tactic| walk_at "hp") => `(tactic| first | assumption | exact upd_same)
local macro_rules | `(tactic| walk_at "sq") => `(tactic| first | assumption | exact SqL.of (by assumption) | exact SqL.of upd_same)
local macro_rules | `(tactic| walk_at "st") => `(tactic| first
  | refine ⟨_, rfl, ?_⟩
  | (refine ⟨_, _, rfl, rfl, And.intro ?side ?_⟩; (case side => walk_at "side"))
  | refine ⟨_, _, rfl, rfl, ?_⟩
  | (refine' ⟨_, _, _, _, rfl, rfl, SqL.of ?hp, ?atx, ?_⟩; (case hp => walk_at "hp"); (case atx => exact rfl))
  | (refine' ⟨_, _, _, _, rfl, rfl, ?hp, ?atx, ?_⟩; (case hp => walk_at "hp"); (case atx => exact rfl))
  | (refine' ⟨_, _, rfl, Or.inl ?sq, ?_⟩; (case sq => walk_at "sq"))
  | refine Or.inl ⟨_, rfl, ?_⟩
  | refine Or.inr ⟨_, rfl, ?_⟩)
local macro_rules | `(tactic| walk_at "evd") => `(tactic| first
  | exact evd_int
  | exact evd_str
  | exact evd_non
  | exact evd_bl
  | exact evd_nil
  | (refine evd_cons ?_ (fun _ => ?_) <;> walk_at "evd")
  | (refine evd_tup ?_ (Nat.le_of_ble_eq_true rfl); walk_at "evd"))

section
variable {P : Program} {w : World} {K : PySem.W.Frag} {mg : Str → Option Value} {base : Heap}
theorem same_make {H H' : Hp} {x dx : Addr} {o1 o2 o3 : HO} (nx : H x = none) (ndx : H dx = none) (s : Same (upd (upd H dx o1) x o2) H') : Same H (upd H' x o3) := fun a o e => by
  rw [upd_ne (ne_of_none e nx)]
  refine s a o ?_
  rw [upd_ne (ne_of_none e nx), upd_ne (ne_of_none e ndx)]
  exact e
theorem same_made {H : Hp} {x dx : Addr} {o1 o2 o3 : HO} (nx : H x = none) (ndx : H dx = none) : Same H (upd (upd (upd H dx o1) x o2) x o3) := same_make nx ndx (Same.refl _)
theorem same_two {H : Hp} {x dx : Addr} {o1 o2 : HO} (nx : H x = none) (ndx : H dx = none) : Same H (upd (upd H dx o1) x o2) := fun a o e => by
  rw [upd_ne (ne_of_none e nx), upd_ne (ne_of_none e ndx)]
  exact e
def InsOf (C : Addr) (H : Hp) (v : V) : Prop := ∃ x dx fs, v = .ref x ∧ H x = some (.ins C dx fs)
theorem ne_of_none' {H : Hp} {a l : Addr} {o : HO} (h : H a = some o) (n : H l = none) : l ≠ a := by
  rintro rfl
  rw [n] at h
  cases h
theorem szl' {n : Nat} (h : n ≤ 10000) : n < sizeLine := Nat.lt_of_le_of_lt h (by decide)
/-- what a plan holds: its blocks, and what was found out -/
def planF (tp d : Addr) : List (Str × V) := putF "found" (.ref d) (putF "blocks" (.ref tp) [])
theorem upd_mid {H : Hp} {x d : Addr} {o1 o2 o3 : HO} (ne : d ≠ x) : upd (upd (upd H x o1) d o2) x o3 = upd (upd H d o2) x o3 := by
  funext a
  by_cases h : a = x
  · subst h
    rw [upd_same, upd_same]
  · rw [upd_ne h, upd_ne h]
    by_cases g : a = d
    · subst g
      rw [upd_same, upd_same]
    · rw [upd_ne g, upd_ne g, upd_ne h]

/-- a text read: its form, or refused -/
def spReadG (CF CI : Addr) : Sp := fun vs H Q E => ∃ s : Str, vs = [.ref CF, .str s] ∧ s.length ≤ 400 ∧ Asc s ∧ (∀ t q c x dx H', 1 ≤ c → Mid t → Mid q → Mid c → s = formText t q c → Same H H' → H' x = some (.ins CF dx (fldF t q c)) → Q (.ref x) H') ∧
  (¬ IsForm s → ∀ H' d, Same H H' → H' d = none → E (.ref CI) (some d) (upd H' d (.xd [("at", .int 0)])))
theorem ok_exc (T : Txt K mg) : FnOk P w K mg base CX0 1 T.a_InvalidText___init__ T.d_InvalidText___init__ ["self", "at"] (spExc T.c_InvalidText "at") := by
  refine T.F_InvalidText___init__.ok sc_InvalidText___init__ (fun vs H Q E h => ?_) (fun cdv A outer s H vs Q E hr h => ?_)
  · obtain ⟨a, v, rfl, _⟩ := h
    rfl
  · obtain ⟨a, v, rfl, ha, k⟩ := h
    refine ⟨_, pss_one (ps_ost (pv 0) (pv 1)), ?_⟩
    exact ⟨_, rfl, _, rfl, a, T.c_InvalidText, rfl, T.x_InvalidText, T.n_InvalidText, .inl ⟨ha, fun dx hd ne => k dx hd ne⟩⟩
theorem ok_readG (T : Txt K mg) : FnOk P w K mg base (L2.CX P w) 6 T.a_Form_read T.d_Form_read ["cls", "text"] (spReadG T.c_Form T.c_InvalidText) := by
  have G__parts : FnOk P w K mg base CX0 4 T.a__parts T.d__parts ["text"] spPG := ok_partsG T
  have GI_Form : FnOk P w K mg base CX0 2 T.a_Form___init__ T.d_Form___init__ ["self", "times", "plus", "by"] (spFormG T.c_Form) := ok_formG T
  have GE_InvalidText : FnOk P w K mg base CX0 1 T.a_InvalidText___init__ T.d_InvalidText___init__ ["self", "at"] (spExc T.c_InvalidText "at") := ok_exc T
  refine T.F_Form_read.okX sc_Form_read (fun vs H Q E h => ?_) (fun cdv A outer s H vs Q E hr h => ?_)
  · obtain ⟨x, rfl, _⟩ := h
    rfl
  · obtain ⟨x, rfl, hl, ha, k1, k2⟩ := h
    have nd := sc_Form_read.nd
    refine ⟨_, (pss_cons (ps_set (i := 2) nd rfl (Or.inl rfl) (pe_call G__parts (hr.mono (by first | decide | omega)) (by rfl) T.m__parts T.k__parts T.b__parts .nil pass0 (pa_cons (pv 1) pa_nil)))
    (pss_cons (ps_if (pt_cmpR op_isN (pv 2) pe_non (nomark _)) (pss_one (ps_raise rfl (takes_of rfl rfl rfl rfl) (pmk_oex T.x_InvalidText T.i_InvalidText T.t_InvalidText GE_InvalidText (hr.mono (by first | decide | omega)) T.b_InvalidText___init__ .nil pass0 (by rfl) T.m_InvalidText (pa_cons pe_int pa_nil)))) pss_nil)
    (pss_cons (ps_asg (pv 2) (pg_tup rfl (pgs_cons (pg_name (i := 3) nd rfl (Or.inl rfl)) (pgs_cons (pg_name (i := 4) nd rfl (Or.inl rfl)) (pgs_cons (pg_name (i := 5) nd rfl (Or.inl rfl)) pgs_nil)))))
    (pss_one (ps_ret (pe_makeV (i := 0) T.M_Form GI_Form (hr.mono (by first | decide | omega)) rfl (Or.inl rfl) T.b_Form___init__ .nil pass0 (pa_cons (pv 3) (pa_cons (pv 4) (pa_cons (pv 5) pa_nil))))))))), ?_⟩
    refine ⟨_, rfl, x, rfl, hl, ha, fun t q c p H1 c1 mt mq mc e s1 hp => ?_, fun no H1 s1 => ?_⟩
    · dsimp only [gName]
      refine seqif_go (tst_go ?_)
      refine ⟨_, rfl, rfl, _, rfl, ifF (decide_eq_false (fun z => nomatch z)) ?_⟩
      dsimp only [tNext]
      refine ⟨_, rfl, p, _, rfl, SqT.of hp, rfl, _, _, rfl, _, _, rfl, _, _, rfl, rfl, ?_⟩
      dsimp only [gName]
      refine ret_go ?_
      refine ⟨rfl, ?_⟩
      refine ⟨_, rfl, _, rfl, _, rfl, fun x2 dx nx ndx ne => ⟨x2, dx, t, q, c, rfl, upd_same, c1, rfl, ?_⟩⟩
      exact k1 t q c x2 dx _ c1 mt mq mc e (s1.trans (same_made nx ndx)) upd_same
    · dsimp only [gName]
      refine seqif_go (tst_go ?_)
      refine ⟨_, rfl, rfl, _, rfl, ifT (decide_eq_true rfl) ?_⟩
      exact make_exc (σ := []) fun d hd => k2 no _ d s1 hd

end
end K09
namespace K09
open PySem PySem.Spec PyProof.Rows L2 Rs
local macro_rules | `(tactic| walk_at "om") => `(tactic| first | omega | (dsimp only; omega))
local macro_rules | `(tactic| walk_at "side") => `(tactic| first | omega | (dsimp only; omega) | decide | (unfold CMul; omega) | (unfold CDiv; omega) | (unfold CPow; omega) | exact wide_div (b := 64) (by omega) (by omega) (by decide) (by decide))
local macro_rules | `(tactic| walk_at "hp") => `(tactic| first | assumption | exact upd_same)
local macro_rules | `(tactic| walk_at "sq") => `(tactic| first | assumption | exact SqL.of (by assumption) | exact SqL.of upd_same)
local macro_rules | `(tactic| walk_at "st") => `(tactic| first
  | refine ⟨_, rfl, ?_⟩
  | (refine ⟨_, _, rfl, rfl, And.intro ?side ?_⟩; (case side => walk_at "side"))
  | refine ⟨_, _, rfl, rfl, ?_⟩
  | (refine' ⟨_, _, _, _, rfl, rfl, SqL.of ?hp, ?atx, ?_⟩; (case hp => walk_at "hp"); (case atx => exact rfl))
  | (refine' ⟨_, _, _, _, rfl, rfl, ?hp, ?atx, ?_⟩; (case hp => walk_at "hp"); (case atx => exact rfl))
  | (refine' ⟨_, _, rfl, Or.inl ?sq, ?_⟩; (case sq => walk_at "sq"))
  | refine Or.inl ⟨_, rfl, ?_⟩
  | refine Or.inr ⟨_, rfl, ?_⟩)
local macro_rules | `(tactic| walk_at "evd") => `(tactic| first
  | exact evd_int
  | exact evd_str
  | exact evd_non
  | exact evd_bl
  | exact evd_nil
  | (refine evd_cons ?_ (fun _ => ?_) <;> walk_at "evd")
  | (refine evd_tup ?_ (Nat.le_of_ble_eq_true rfl); walk_at "evd"))

section
variable {P : Program} {w : World} {K : PySem.W.Frag} {mg : Str → Option Value} {base : Heap}
/-! forms of small numbers are short -/
theorem short_int : ∀ n : Fin 19, (nS ((n.val : Int) - 9)).length ≤ 2 := by decide +kernel
theorem short_nS {n : Int} (h : -9 ≤ n) (g : n ≤ 9) : (nS n).length ≤ 2 := by
  have z := short_int ⟨(n + 9).toNat, by omega⟩
  rw [show (((n + 9).toNat : Nat) : Int) - 9 = n by omega] at z
  exact z
theorem short_form {t q c : Int} (t0 : -9 ≤ t) (t1 : t ≤ 9) (q0 : -9 ≤ q) (q1 : q ≤ 9) (c0 : 1 ≤ c) (c1 : c ≤ 3) : (formText t q c).length ≤ 9 := by
  have a := short_nS t0 t1
  have b := short_nS q0 q1
  have one : ∀ n : Fin 10, (nS (n.val : Int)).length ≤ 1 := by decide +kernel
  have d := one ⟨c.toNat, by omega⟩
  rw [show ((c.toNat : Nat) : Int) = c by omega] at d
  have w1 : (Str.ofString "n").length = 1 := by decide
  have w2 : (Str.ofString "-n").length = 2 := by decide
  have w3 : (Str.ofString "(").length = 1 := by decide
  have w4 : (Str.ofString ")/").length = 2 := by decide
  have w5 : (Str.ofString "+").length = 1 := by decide
  have f : (frontS t).length ≤ 3 := by
    unfold frontS
    split
    · omega
    · split
      · omega
      · rw [Str.length_append]
        omega
  have pl : (plusS q).length ≤ 2 := by
    by_cases z : q < 0
    · have e : plusS q = nS q := if_pos z
      rw [e]
      exact b
    · have e : plusS q = Str.ofString "+" ++ nS q := if_neg z
      have o := one ⟨q.toNat, by omega⟩
      rw [show ((q.toNat : Nat) : Int) = q by omega] at o
      rw [e, Str.length_append]
      omega
  have u : (upperS t q).length ≤ 5 := by
    unfold upperS
    split
    · omega
    · split
      · omega
      · rw [Str.length_append]
        omega
  unfold formText
  split
  · omega
  · rw [Str.length_append, Str.length_append, Str.length_append]
    omega
theorem FormR.small {t q c : Int} (t0 : -9 ≤ t) (t1 : t ≤ 9) (q0 : -9 ≤ q) (q1 : q ≤ 9) (c0 : 1 ≤ c) (c1 : c ≤ 3) : FormR t q c :=
  ⟨by unfold Mid; omega, by unfold Mid; omega, c0, by unfold Mid; omega, Nat.le_trans (short_form t0 t1 q0 q1 c0 c1) (by decide)⟩

/-! lanes: what is drawn, what is made -/
def ways : List Str := ["up", "down"]
def signs : List Str := ["+", "-"]
def deeds : List Str := ["add", "put"]
/-- a lane's data -/
structure LD where
  w : Str
  s : Str
  t : Int
  q : Int
  c : Int
  d : Str
  deriving DecidableEq
structure LI (l : LD) : Prop where
  w : l.w ∈ ways
  s : l.s ∈ signs
  d : l.d ∈ deeds
  r : FormR l.t l.q l.c
/-- a drawn lane -/
structure LW (l : LD) : Prop extends LI l where
  len : (formText l.t l.q l.c).length ≤ 9
def LaneV (H : Hp) (v : V) (l : LD) : Prop := ∃ p f, v = .ref p ∧ H p = some (.tup [.str l.w, .str l.s, .ref f, .str l.d]) ∧ H f = some (.tup [.int l.t, .int l.q, .int l.c]) ∧ LW l
theorem LaneV.fz {H H' : Hp} {v : V} {l : LD} (h : LaneV H v l) (k : Fz H H') : LaneV H' v l := by
  obtain ⟨p, f, e, hp, hf, i⟩ := h
  exact ⟨p, f, e, k _ _ trivial hp, k _ _ trivial hf, i⟩
def spLane : Sp := fun vs H Q _ => ∃ (b : Addr) (far : Int), vs = [.ref b, .int far] ∧ Box H b ∧ 2 ≤ far ∧ far ≤ 9 ∧ ∀ (v : V) (l : LD) (H' : Hp), LaneV H' v l → Box H' b → But b H H' → Q v H'
theorem mem3 {v : V} {a b c : Str} {ys : List Str} (h : v ∈ [V.str a, V.str b, V.str c]) (ha : a ∈ ys) (hb : b ∈ ys) (hc : c ∈ ys) : ∃ x, v = .str x ∧ x ∈ ys := by
  simp only [List.mem_cons, List.not_mem_nil, or_false] at h
  rcases h with h | h | h
  · exact ⟨a, h, ha⟩
  · exact ⟨b, h, hb⟩
  · exact ⟨c, h, hc⟩
theorem ok_lane (T : Txt K mg) : FnOk P w K mg base CX0 4 T.a__law_lane T.d__law_lane ["_law_box_here", "_law_far"] spLane := by
  have G__law_pick : FnOk P w K mg base CX0 2 T.a__law_pick T.d__law_pick ["_law_box_here", "_law_some"] spPick := ok_pick T
  have G__law_form : FnOk P w K mg base CX0 3 T.a__law_form T.d__law_form ["_law_box_here", "_law_far"] spForm := ok_form T
  refine T.F__law_lane.ok sc__law_lane (fun vs H Q E h => ?_) (fun cdv A outer s H vs Q E hr h => ?_)
  · obtain ⟨b, far, rfl, _⟩ := h
    rfl
  · obtain ⟨b, far, rfl, hB, f0, f1, k⟩ := h
    have nd := sc__law_lane.nd
    refine ⟨_, (pss_cons (ps_par (i := 2) (j := 3) (by rfl) nd rfl rfl (by decide) rfl rfl (pa_cons (pe_call G__law_pick (hr.mono (by first | decide | omega)) (by rfl) T.m__law_pick T.k__law_pick T.b__law_pick .nil pass0 (pa_cons (pv 0) (pa_cons (pe_lst (pa_cons pe_str (pa_cons pe_str (pa_cons pe_str pa_nil)))) pa_nil))) (pa_cons (pe_call G__law_pick (hr.mono (by first | decide | omega)) (by rfl) T.m__law_pick T.k__law_pick T.b__law_pick .nil pass0 (pa_cons (pv 0) (pa_cons (pe_lst (pa_cons pe_str (pa_cons pe_str (pa_cons pe_str pa_nil)))) pa_nil))) pa_nil)) (by rfl))
    (pss_one (ps_ret (pe_tup (pa_cons (pv 2) (pa_cons (pv 3) (pa_cons (pe_call G__law_form (hr.mono (by first | decide | omega)) (by rfl) T.m__law_form T.k__law_form T.b__law_form .nil pass0 (pa_cons (pv 0) (pa_cons (pv 1) pa_nil))) (pa_cons (pe_call G__law_pick (hr.mono (by first | decide | omega)) (by rfl) T.m__law_pick T.k__law_pick T.b__law_pick .nil pass0 (pa_cons (pv 0) (pa_cons (pe_lst (pa_cons pe_str (pa_cons pe_str (pa_cons pe_str pa_nil)))) pa_nil))) pa_nil)))))))), ?_⟩
    refine ⟨_, rfl, szL (Nat.le_of_ble_eq_true rfl), fun L1 n1 => ?_⟩
    refine ⟨b, L1, _, rfl, hB.same (same_new n1), hB.ne_none n1, upd_same, by simp, by simp, fun v H2 hv B2 k2 => ?_⟩
    obtain ⟨x, rfl, hx⟩ := mem3 (ys := ways) hv (by decide) (by decide) (by decide)
    refine ⟨_, rfl, szL (Nat.le_of_ble_eq_true rfl), fun L2 n2 => ?_⟩
    refine ⟨b, L2, _, rfl, B2.same (same_new n2), B2.ne_none n2, upd_same, by simp, by simp, fun v H3 hv B3 k3 => ?_⟩
    obtain ⟨y, rfl, hy⟩ := mem3 (ys := signs) hv (by decide) (by decide) (by decide)
    refine ⟨_, _, rfl, ?_⟩
    refine ⟨_, rfl, _, rfl, _, rfl, _, rfl, b, far, rfl, B3, f0, by omega, fun p t q c H4 t0 t1 q0 q1 c0 c1 _ hp B4 k4 => ?_⟩
    refine ⟨_, rfl, szL (Nat.le_of_ble_eq_true rfl), fun L3 n3 => ?_⟩
    refine ⟨b, L3, _, rfl, B4.same (same_new n3), B4.ne_none n3, upd_same, by simp, by simp, fun v H5 hv B5 k5 => ?_⟩
    obtain ⟨z, rfl, hz⟩ := mem3 (ys := deeds) hv (by decide) (by decide) (by decide)
    refine ⟨szL (Nat.le_of_ble_eq_true rfl), fun pl npl => ?_⟩
    have k15 := (((But.of_same (same_new n1)).trans k2).trans ((But.of_same (same_new n2)).trans k3)).trans ((k4.trans (But.of_same (same_new n3))).trans k5)
    have z4 : Fz H4 H5 := (B4.fz ((But.of_same (same_new n3)).trans k5))
    exact k _ ⟨x, y, t, q, c, z⟩ _ ⟨pl, p, rfl, upd_same, (Fz.new npl) _ _ trivial (z4 _ _ trivial hp), ⟨⟨hx, hy, hz, FormR.small (t := t) (q := q) (c := c) (by omega) (by omega) (by omega) (by omega) c0 c1⟩, short_form (t := t) (q := q) (c := c) (by omega) (by omega) (by omega) (by omega) c0 c1⟩⟩ (B5.same (same_new npl)) (k15.trans (But.of_same (same_new npl)))
/-! Lane -/
def fldL (l : LD) (y : Addr) : List (Str × V) := putF "deed" (.str l.d) (putF "shift" (.ref y) (putF "sign" (.str l.s) (putF "way" (.str l.w) [])))
def LaneO (CL CF : Addr) (H : Hp) (v : V) (l : LD) : Prop := ∃ x dx y, v = .ref x ∧ H x = some (.ins CL dx (fldL l y)) ∧ FormO CF H y l.t l.q l.c ∧ LI l
theorem LaneO.fz {CL CF : Addr} {H H' : Hp} {v : V} {l : LD} (h : LaneO CL CF H v l) (k : Fz H H') : LaneO CL CF H' v l := by
  obtain ⟨x, dx, y, e, hx, hy, i⟩ := h
  exact ⟨x, dx, y, e, k _ _ trivial hx, hy.fz k, i⟩
def spLaneG (CL CF : Addr) : Sp := fun vs H Q _ => ∃ (x dx y : Addr) (l : LD), vs = [.ref x, .str l.w, .str l.s, .ref y, .str l.d] ∧ H x = some (.ins CL dx []) ∧ LI l ∧ FormO CF H y l.t l.q l.c ∧ Q .non (upd H x (.ins CL dx (fldL l y)))
theorem isOne_mem {y : Str} {ys : List Str} (h : y ∈ ys) : isOne ys (.str y) = true := by
  show ys.any (· == y) = true
  rw [List.any_eq_true]
  exact ⟨y, h, by simp⟩
theorem ok_laneG (T : Txt K mg) : FnOk P w K mg base CX0 2 T.a_Lane___init__ T.d_Lane___init__ ["self", "way", "sign", "shift", "deed"] (spLaneG T.c_Lane T.c_Form) := by
  refine T.F_Lane___init__.ok sc_Lane___init__ (fun vs H Q E h => ?_) (fun cdv A outer s H vs Q E hr h => ?_)
  · obtain ⟨x, dx, y, l, rfl, _⟩ := h
    rfl
  · obtain ⟨x, dx, y, l, rfl, hx, li, ⟨dy, hy⟩, kn⟩ := h
    have nd := sc_Lane___init__.nd
    refine ⟨_, (pss_cons (ps_if (pt_cmpR (op_notInSh hr.units) (pv 1) (pe_glob rfl T.m_WAYS (rel_ref _)) (by rfl)) (pss_one ps_never) pss_nil)
    (pss_cons (ps_if (pt_cmpR (op_notInSh hr.units) (pv 2) (pe_glob rfl T.m_SIGNS (rel_ref _)) (by rfl)) (pss_one ps_never) pss_nil)
    (pss_cons (ps_if (pt_not (pt_val (pe_callB call_isi (by rfl) T.z_isinstance (by decide +kernel) (pa_cons (pv 3) (pa_cons (pe_glob rfl T.m_Form (rel_ref _)) pa_nil))))) (pss_one ps_never) pss_nil)
    (pss_cons (ps_if (pt_cmpR (op_notInSh hr.units) (pv 4) (pe_glob rfl T.m_DEEDS (rel_ref _)) (by rfl)) (pss_one ps_never) pss_nil)
    (pss_cons (ps_fld (pv 0) (pv 1) rfl)
    (pss_cons (ps_fld (pv 0) (pv 2) rfl)
    (pss_cons (ps_fld (pv 0) (pv 3) rfl)
    (pss_one (ps_fld (pv 0) (pv 4) rfl))))))))), ?_⟩
    refine ⟨_, rfl, x, _, ways, rfl, T.s_WAYS _, trivial, _, rfl, ifF (by simp [isOne_mem li.w]) ?_⟩
    refine ⟨_, rfl, x, _, signs, rfl, T.s_SIGNS _, trivial, _, rfl, ifF (by simp [isOne_mem li.s]) ?_⟩
    refine ⟨_, rfl, _, _, _, _, _, rfl, .own _, T.I_Form.ty T.C_Form hy, kit_self, _, rfl, ifF rfl ?_⟩
    refine ⟨_, rfl, x, _, deeds, rfl, T.s_DEEDS _, trivial, _, rfl, ifF (by simp [isOne_mem li.d]) ?_⟩
    refine ⟨_, rfl, _, rfl, x, T.c_Lane, dx, _, rfl, hx, T.C_Lane, T.n_Lane_way, by decide, ?_⟩
    refine ⟨_, rfl, _, rfl, x, T.c_Lane, dx, _, rfl, upd_same, T.C_Lane, T.n_Lane_sign, by show 1 < 1000; decide, ?_⟩
    refine ⟨_, rfl, _, rfl, x, T.c_Lane, dx, _, rfl, upd_same, T.C_Lane, T.n_Lane_shift, by show 2 < 1000; decide, ?_⟩
    refine ⟨_, rfl, _, rfl, x, T.c_Lane, dx, _, rfl, upd_same, T.C_Lane, T.n_Lane_deed, by show 3 < 1000; decide, ?_⟩
    show Q .non _
    rw [upd_upd, upd_upd, upd_upd]
    exact kn
theorem dec_str {a b : Str} : decide (V.str a = V.str b) = decide (a = b) := decide_eq_decide.mpr ⟨fun h => by injection h, fun h => by rw [h]⟩
def spLEq (K : PySem.W.Frag) (CL CF : Addr) : Sp := fun vs H Q _ => ∃ (u v : V) (l : LD), vs = [u, v] ∧ LaneO CL CF H u l ∧
  ((∃ l', LaneO CL CF H v l' ∧ Q (.bl (decide (l = l'))) H) ∨ ∃ t, TyX K H v t ∧ PySem.W.kitOne K t (.ref CL) = some false ∧ Q (.bl false) H)
theorem ok_leq (T : Txt K mg) : FnOk P w K mg base CX0 3 T.a_Lane___eq__ T.d_Lane___eq__ ["self", "other"] (spLEq K T.c_Lane T.c_Form) := by
  have R_feq : FnR P w K mg base CX0 1 T.a_Form___eq__ (spFEq K T.c_Form) := fnR (ok_feq T) T.b_Form___eq__
  refine T.F_Lane___eq__.ok sc_Lane___eq__ (fun vs H Q E h => ?_) (fun cdv A outer s H vs Q E hr h => ?_)
  · obtain ⟨u, v, l, rfl, _⟩ := h
    rfl
  · obtain ⟨u, v, l, rfl, ⟨x, dx, y, rfl, hx, hy, li⟩, hv⟩ := h
    have nd := sc_Lane___eq__.nd
    refine ⟨_, (pss_one (ps_ret (pe_and (pe_callB call_isi (by rfl) T.z_isinstance (by decide +kernel) (pa_cons (pv 1) (pa_cons (pe_glob rfl T.m_Lane (rel_ref _)) pa_nil))) (pe_and (pe_cmpR op_eq (pe_fld (pv 0) rfl) (pe_fld (pv 1) rfl) (nomark _)) (pe_and (pe_cmpR op_eq (pe_fld (pv 0) rfl) (pe_fld (pv 1) rfl) (nomark _)) (pe_and (pe_cmpR (op_eqO T.O_Form R_feq (hr.mono (by decide)) pass0) (pe_fld (pv 0) rfl) (pe_fld (pv 1) rfl) (nomark _)) (pe_one (pe_cmpR op_eq (pe_fld (pv 0) rfl) (pe_fld (pv 1) rfl) (nomark _))))))))), ?_⟩
    rcases hv with ⟨l', ⟨x', dx', y', rfl, hx', hy', li'⟩, k⟩ | ⟨t, ty, kt, k⟩
    · refine ⟨_, rfl, _, _, _, _, _, rfl, .own _, T.I_Lane.ty T.C_Lane hx', kit_self, _, rfl, ifT rfl ?_⟩
      have no : l ≠ l' → Q (.bl false) H := fun n => by
        rw [decide_eq_false n] at k
        exact k
      refine ⟨_, rfl, x, _, dx, _, _, rfl, hx, T.C_Lane, T.n_Lane_way, rfl, _, rfl, x', _, dx', _, _, rfl, hx', T.C_Lane, T.n_Lane_way, rfl, rfl, _, rfl, ?_⟩
      rw [dec_str]
      refine ifD (fun e0 => ?_) (fun e0 => no fun z => e0 (by rw [z]))
      refine ⟨_, rfl, x, _, dx, _, _, rfl, hx, T.C_Lane, T.n_Lane_sign, rfl, _, rfl, x', _, dx', _, _, rfl, hx', T.C_Lane, T.n_Lane_sign, rfl, rfl, _, rfl, ?_⟩
      rw [dec_str]
      refine ifD (fun e1 => ?_) (fun e1 => no fun z => e1 (by rw [z]))
      obtain ⟨dz, hz⟩ := id hy
      obtain ⟨dz', hz'⟩ := id hy'
      refine ⟨_, rfl, x, _, dx, _, _, rfl, hx, T.C_Lane, T.n_Lane_shift, rfl, _, rfl, x', _, dx', _, _, rfl, hx', T.C_Lane, T.n_Lane_shift, rfl, y, dz, _, _, rfl, hz, T.I_Form.ty T.C_Form hz', notFirst_self, y, _, _, _, _, rfl, hy, .inl ⟨y', _, _, _, rfl, hy', _, rfl, ifD (fun e2 => ?_) (fun e2 => no fun z => e2 (by rw [z]; exact ⟨rfl, rfl, rfl⟩))⟩⟩
      refine ⟨_, rfl, x, _, dx, _, _, rfl, hx, T.C_Lane, T.n_Lane_deed, rfl, _, rfl, x', _, dx', _, _, rfl, hx', T.C_Lane, T.n_Lane_deed, rfl, rfl, ?_⟩
      have e : decide (V.str l.d = V.str l'.d) = decide (l = l') := by
        rw [dec_str]
        refine decide_eq_decide.mpr ⟨fun e3 => ?_, fun z => by rw [z]⟩
        obtain ⟨a, b, c⟩ := e2
        cases l
        cases l'
        simp only at e0 e1 e3 a b c
        subst e0 e1 e3 a b c
        rfl
      show Q (.bl (decide (V.str l.d = V.str l'.d))) H
      rw [e]
      exact k
    · exact ⟨_, rfl, _, _, _, _, _, rfl, .own _, ty, kt, _, rfl, ifF rfl k⟩
/-! texts -/
def laneText (l : LD) : Str := Txt.join blank [l.w, l.s, formText l.t l.q l.c, l.d]
theorem lane_eq (l : LD) : laneText l = l.w ++ (blank ++ (l.s ++ (blank ++ (formText l.t l.q l.c ++ (blank ++ l.d))))) := by
  have e : laneText l = Str.join blank [l.w, l.s, formText l.t l.q l.c, l.d] := StrLaws.glued_eq_join _ _
  rw [e]
  show l.w ++ blank ++ (l.s ++ blank ++ (formText l.t l.q l.c ++ blank ++ l.d)) = _
  simp only [Str.append_assoc]
theorem form_len {t q c : Int} (r : FormR t q c) : (formText t q c).length ≤ 300 := r.len
theorem small_word {y : Str} (h : y ∈ ways ∨ y ∈ signs ∨ y ∈ deeds) : y.length ≤ 4 := by
  unfold ways signs deeds at h
  simp only [List.mem_cons, List.not_mem_nil, or_false] at h
  rcases h with (h | h) | (h | h) | (h | h) <;> (subst h; decide)
theorem lane_len {l : LD} (i : LI l) : (laneText l).length ≤ 320 := by
  have a := form_len i.r
  have b := small_word (.inl i.w)
  have c := small_word (.inr (.inl i.s))
  have d := small_word (.inr (.inr i.d))
  have e : blank.length = 1 := by decide
  rw [lane_eq]
  simp only [Str.length_append]
  omega
def spLStr (CL CF : Addr) : Sp := fun vs H Q _ => ∃ (u : V) (l : LD), vs = [u] ∧ LaneO CL CF H u l ∧ Q (.str (laneText l)) H
theorem ok_lstr (T : Txt K mg) : FnOk P w K mg base CX0 5 T.a_Lane___str__ T.d_Lane___str__ ["self"] (spLStr T.c_Lane T.c_Form) := by
  have R_fmt : FnR P w K mg base CX0 3 T.a_Form___str__ (spFStr T.c_Form) := fnR (ok_fstr T) T.b_Form___str__
  refine T.F_Lane___str__.ok sc_Lane___str__ (fun vs H Q E h => ?_) (fun cdv A outer s H vs Q E hr h => ?_)
  · obtain ⟨u, l, rfl, _⟩ := h
    rfl
  · obtain ⟨u, l, rfl, ⟨x, dx, y, rfl, hx, hy, li⟩, k⟩ := h
    have nd := sc_Lane___str__.nd
    refine ⟨_, (pss_one (ps_ret (pe_joined (.cons (pe_fmt (pe_fld (pv 0) rfl)) (.cons pe_str (.cons (pe_fmt (pe_fld (pv 0) rfl)) (.cons pe_str (.cons (pe_fmtO (pe_fld (pv 0) rfl) T.F_Form T.M_Form___str__ R_fmt (hr.mono (by decide)) pass0) (.cons pe_str (.cons (pe_fmt (pe_fld (pv 0) rfl)) .nil)))))))))), ?_⟩
    have a := form_len li.r
    have b := small_word (.inl li.w)
    have c := small_word (.inr (.inl li.s))
    have d := small_word (.inr (.inr li.d))
    have e : blank.length = 1 := by decide
    have e9 := sizeLine_eq
    have e8 : (Str.ofString " ").length = 1 := e
    have w0 : Str.empty.length = 0 := rfl
    obtain ⟨dz, hz⟩ := id hy
    have r := li.r
    have t1 := r.t1
    have q1 := r.q1
    have c1 := r.c1
    have c2 := r.c2
    refine ret_go ⟨_, rfl, x, _, dx, _, _, rfl, hx, T.C_Lane, T.n_Lane_way, rfl, .inl ⟨_, rfl, by omega, _, rfl, by simp only [Str.length_append]; omega, ?_⟩⟩
    refine ⟨_, rfl, by simp only [Str.length_append]; omega, ?_⟩
    refine ⟨_, rfl, x, _, dx, _, _, rfl, hx, T.C_Lane, T.n_Lane_sign, rfl, .inl ⟨_, rfl, by omega, _, rfl, by simp only [Str.length_append]; omega, ?_⟩⟩
    refine ⟨_, rfl, by simp only [Str.length_append]; omega, ?_⟩
    refine ⟨_, rfl, x, _, dx, _, _, rfl, hx, T.C_Lane, T.n_Lane_shift, rfl, y, dz, _, rfl, hz, y, _, _, _, rfl, hy, t1, q1, c1, c2, _, rfl, _, rfl, by simp only [Str.length_append]; omega, ?_⟩
    refine ⟨_, rfl, by simp only [Str.length_append]; omega, ?_⟩
    refine ⟨_, rfl, x, _, dx, _, _, rfl, hx, T.C_Lane, T.n_Lane_deed, rfl, .inl ⟨_, rfl, by omega, _, rfl, by simp only [Str.length_append]; omega, ?_⟩⟩
    show Q (.str (Str.empty ++ l.w ++ blank ++ l.s ++ blank ++ formText l.t l.q l.c ++ blank ++ l.d)) H
    rw [lane_eq] at k
    simp only [Str.append_assoc, Str.empty_append]
    exact k
theorem str_eqv {a b : Str} : PyData.eqv (.str a) (.str b) = decide (a = b) := by
  show (a == b) = _
  rw [Bool.eq_iff_iff]
  simp
theorem two_eqv {a b c d : Str} : PyData.eqv (.tuple [.str a, .str b]) (.tuple [.str c, .str d]) = decide (a = c ∧ b = d) := by
  show (PyData.eqv (.str a) (.str c) && (PyData.eqv (.str b) (.str d) && true)) = _
  rw [str_eqv, str_eqv, Bool.and_true, Bool.eq_iff_iff]
  simp
def lFol (l : LD) : Bool := decide ((l.w = Str.ofString "up" ∧ l.s = Str.ofString "-") ∨ (l.w = Str.ofString "down" ∧ l.s = Str.ofString "+"))
theorem fol_any {a b : Str} : ([PyData.tuple [.str (Str.ofString "up"), .str (Str.ofString "-")], .tuple [.str (Str.ofString "down"), .str (Str.ofString "+")]].any fun z => z.eqv (.tuple [.str a, .str b])) = decide ((a = Str.ofString "up" ∧ b = Str.ofString "-") ∨ (a = Str.ofString "down" ∧ b = Str.ofString "+")) := by
  show ((PyData.eqv (.tuple [.str (Str.ofString "up"), .str (Str.ofString "-")]) (.tuple [.str a, .str b])) || ((PyData.eqv (.tuple [.str (Str.ofString "down"), .str (Str.ofString "+")]) (.tuple [.str a, .str b])) || false)) = _
  rw [two_eqv, two_eqv, Bool.or_false, Bool.eq_iff_iff]
  simp only [Bool.or_eq_true, decide_eq_true_eq]
  constructor
  · rintro (⟨h1, h2⟩ | ⟨h1, h2⟩)
    · exact .inl ⟨h1.symm, h2.symm⟩
    · exact .inr ⟨h1.symm, h2.symm⟩
  · rintro (⟨h1, h2⟩ | ⟨h1, h2⟩)
    · exact .inl ⟨h1.symm, h2.symm⟩
    · exact .inr ⟨h1.symm, h2.symm⟩
theorem word_ok {y : Str} (h : y ∈ ways ∨ y ∈ signs ∨ y ∈ deeds) : PyData.canLay0 (.str y) = true := by
  unfold ways signs deeds at h
  simp only [List.mem_cons, List.not_mem_nil, or_false] at h
  rcases h with (h | h) | (h | h) | (h | h) <;> (subst h; decide +kernel)
theorem two_ok {a b : Str} (ha : PyData.canLay0 (.str a) = true) (hb : PyData.canLay0 (.str b) = true) : okD 1 (.tuple [.str a, .str b]) := okD.tuple fun d hd => by
  simp only [List.mem_cons, List.not_mem_nil, or_false] at hd
  rcases hd with rfl | rfl
  · exact ⟨ha, Nat.zero_le _⟩
  · exact ⟨hb, Nat.zero_le _⟩
theorem fols_ok : okD 2 (.tuple [PyData.tuple [.str (Str.ofString "up"), .str (Str.ofString "-")], .tuple [.str (Str.ofString "down"), .str (Str.ofString "+")]]) := okD.tuple fun d hd => by
  simp only [List.mem_cons, List.not_mem_nil, or_false] at hd
  rcases hd with rfl | rfl
  · exact two_ok (by decide +kernel) (by decide +kernel)
  · exact two_ok (by decide +kernel) (by decide +kernel)

end
end K09
namespace K09
open PySem PySem.Spec PyProof.Rows L2 Rs
local macro_rules | `(tactic| walk_at "om") => `(tactic| first | omega | (dsimp only; omega))
local macro_rules | `(tactic| walk_at "side") => `(tactic| first | omega | (dsimp only; omega) | decide | (unfold CMul; omega) | (unfold CDiv; omega) | (unfold CPow; omega) | exact wide_div (b := 64) (by omega) (by omega) (by decide) (by decide))
local macro_rules | `(tactic| walk_at "hp") => `(tactic| first | assumption | exact upd_same)
local macro_rules | `(tactic| walk_at "sq") => `(tactic| first | assumption | exact SqL.of (by assumption) | exact SqL.of upd_same)
local macro_rules | `(tactic| walk_at "st") => `(tactic| first
  | refine ⟨_, rfl, ?_⟩
  | (refine ⟨_, _, rfl, rfl, And.intro ?side ?_⟩; (case side => walk_at "side"))
  | refine ⟨_, _, rfl, rfl, ?_⟩
  | (refine' ⟨_, _, _, _, rfl, rfl, SqL.of ?hp, ?atx, ?_⟩; (case hp => walk_at "hp"); (case atx => exact rfl))
  | (refine' ⟨_, _, _, _, rfl, rfl, ?hp, ?atx, ?_⟩; (case hp => walk_at "hp"); (case atx => exact rfl))
  | (refine' ⟨_, _, rfl, Or.inl ?sq, ?_⟩; (case sq => walk_at "sq"))
  | refine Or.inl ⟨_, rfl, ?_⟩
  | refine Or.inr ⟨_, rfl, ?_⟩)
local macro_rules | `(tactic| walk_at "evd") => `(tactic| first
  | exact evd_int
  | exact evd_str
  | exact evd_non
  | exact evd_bl
  | exact evd_nil
  | (refine evd_cons ?_ (fun _ => ?_) <;> walk_at "evd")
  | (refine evd_tup ?_ (Nat.le_of_ble_eq_true rfl); walk_at "evd"))

section
variable {P : Program} {w : World} {K : PySem.W.Frag} {mg : Str → Option Value} {base : Heap}
theorem sla_any {K : PySem.W.Frag} {H : Hp} {a : Addr} {xs : List V} {lo hi : Option Int} {Q : VK} (h : SqT K H a xs) (q : ∀ t H', Same H H' → SqT K H' t (cutV xs lo hi) → Q (.ref t) H') : rSlA K (.ref a) lo hi H Q := by
  refine ⟨a, xs, rfl, h, fun e => ?_, fun _ p np => q p _ (same_new np) (SqT.of upd_same)⟩
  have e2 : cutV xs lo hi = xs := by
    unfold cutV
    rw [e.1, e.2, List.drop_zero, Nat.sub_zero, List.take_length]
  exact q a H (Same.refl _) (by rw [e2]; exact h)
/-! the law's own lanes -/
def spLaneText (K : PySem.W.Frag) : Sp := fun vs H Q _ => ∃ (v : V) (l : LD), vs = [v] ∧ LaneV H v l ∧ ∀ H', Same H H' → Q (.str (laneText l)) H'
theorem ok_lane_text (T : Txt K mg) : FnOk P w K mg base CX0 2 T.a__law_lane_text T.d__law_lane_text ["_law_lane_here"] (spLaneText K) := by
  have G__law_form_text : FnOk P w K mg base CX0 1 T.a__law_form_text T.d__law_form_text ["_law_form_here"] (spFormText K) := ok_form_text T
  refine T.F__law_lane_text.ok sc__law_lane_text (fun vs H Q E h => ?_) (fun cdv A outer s H vs Q E hr h => ?_)
  · obtain ⟨v, l, rfl, _⟩ := h
    rfl
  · obtain ⟨v, l, rfl, ⟨p, f, rfl, hp, hf, li⟩, k⟩ := h
    have nd := sc__law_lane_text.nd
    refine ⟨_, (pss_one (ps_ret (pe_join pe_str (pe_lst (pa_cons (pe_ix ix_tup (pv 0) pe_int (fun _ _ => rfl)) (pa_cons (pe_ix ix_tup (pv 0) pe_int (fun _ _ => rfl)) (pa_cons (pe_call G__law_form_text (hr.mono (by first | decide | omega)) (by rfl) T.m__law_form_text T.k__law_form_text T.b__law_form_text .nil pass0 (pa_cons (pe_ix ix_tup (pv 0) pe_int (fun _ _ => rfl)) pa_nil)) (pa_cons (pe_ix ix_tup (pv 0) pe_int (fun _ _ => rfl)) pa_nil)))))))), ?_⟩
    refine ⟨⟨_, rfl⟩, _, rfl, _, _, _, _, rfl, rfl, SqT.of hp, rfl, _, rfl, _, _, _, _, rfl, rfl, SqT.of hp, rfl, _, rfl, _, _, _, _, rfl, rfl, SqT.of hp, rfl, f, _, _, _, rfl, SqT.of hf, li.r, fun H1 s1 => ?_⟩
    refine ⟨_, rfl, _, _, _, _, rfl, rfl, SqT.of (s1 _ _ hp), rfl, szL (Nat.le_of_ble_eq_true rfl), fun D nD => ?_⟩
    have a := form_len li.r
    have b := small_word (.inl li.w)
    have c := small_word (.inr (.inl li.s))
    have d := small_word (.inr (.inr li.d))
    have e : blank.length = 1 := by decide
    exact ⟨blank, D, [l.w, l.s, formText l.t l.q l.c, l.d], rfl, rfl, .inl (SqL.of upd_same), by simp [e]; omega, k _ (s1.trans (same_new nD))⟩
def spLaneOf (CL CF : Addr) : Sp := fun vs H Q _ => ∃ (v : V) (l : LD), vs = [v] ∧ LaneV H v l ∧ ∀ u H', Same H H' → LaneO CL CF H' u l → Q u H'
theorem ok_lane_of (T : Txt K mg) : FnOk P w K mg base CX0 4 T.a__law_lane_of T.d__law_lane_of ["_law_lane_here"] (spLaneOf T.c_Lane T.c_Form) := by
  have GI_Form : FnOk P w K mg base CX0 2 T.a_Form___init__ T.d_Form___init__ ["self", "times", "plus", "by"] (spFormG T.c_Form) := ok_formG T
  have GI_Lane : FnOk P w K mg base CX0 2 T.a_Lane___init__ T.d_Lane___init__ ["self", "way", "sign", "shift", "deed"] (spLaneG T.c_Lane T.c_Form) := ok_laneG T
  refine T.F__law_lane_of.ok sc__law_lane_of (fun vs H Q E h => ?_) (fun cdv A outer s H vs Q E hr h => ?_)
  · obtain ⟨v, l, rfl, _⟩ := h
    rfl
  · obtain ⟨v, l, rfl, ⟨p, f, rfl, hp, hf, lw⟩, k⟩ := h
    have li := lw.toLI
    have nd := sc__law_lane_of.nd
    refine ⟨_, (pss_one (ps_ret (pe_make T.M_Lane GI_Lane (hr.mono (by first | decide | omega)) (by rfl) T.m_Lane T.b_Lane___init__ .nil pass0 (pa_cons (pe_ix ix_tup (pv 0) pe_int (fun _ _ => rfl)) (pa_cons (pe_ix ix_tup (pv 0) pe_int (fun _ _ => rfl)) (pa_cons (pe_make T.M_Form GI_Form (hr.mono (by first | decide | omega)) (by rfl) T.m_Form T.b_Form___init__ .nil pass0 (pa_cons (pe_ix ix_tup (pe_ix ix_tup (pv 0) pe_int (fun _ _ => rfl)) pe_int (fun _ _ => rfl)) (pa_cons (pe_ix ix_tup (pe_ix ix_tup (pv 0) pe_int (fun _ _ => rfl)) pe_int (fun _ _ => rfl)) (pa_cons (pe_ix ix_tup (pe_ix ix_tup (pv 0) pe_int (fun _ _ => rfl)) pe_int (fun _ _ => rfl)) pa_nil)))) (pa_cons (pe_ix ix_tup (pv 0) pe_int (fun _ _ => rfl)) pa_nil))))))), ?_⟩
    refine ⟨_, rfl, _, _, _, _, rfl, rfl, SqT.of hp, rfl, _, rfl, _, _, _, _, rfl, rfl, SqT.of hp, rfl, ?_⟩
    refine ⟨_, rfl, _, _, _, _, rfl, rfl, SqT.of hp, rfl, _, _, _, _, rfl, rfl, SqT.of hf, rfl, _, rfl, _, _, _, _, rfl, rfl, SqT.of hp, rfl, _, _, _, _, rfl, rfl, SqT.of hf, rfl, _, rfl, _, _, _, _, rfl, rfl, SqT.of hp, rfl, _, _, _, _, rfl, rfl, SqT.of hf, rfl, ?_⟩
    refine fun y dy ny ndy ney => ⟨y, dy, l.t, l.q, l.c, rfl, upd_same, li.r.c1, rfl, ?_⟩
    rw [upd_upd]
    have s1 : Same H (upd (upd H dy (.own y)) y (.ins T.c_Form dy (fldF l.t l.q l.c))) := fun a o e => by
      rw [upd_ne (ne_of_none e ny), upd_ne (ne_of_none e ndy)]
      exact e
    have hy : upd (upd H dy (.own y)) y (.ins T.c_Form dy (fldF l.t l.q l.c)) y = some (.ins T.c_Form dy (fldF l.t l.q l.c)) := upd_same
    generalize upd (upd H dy (.own y)) y (.ins T.c_Form dy (fldF l.t l.q l.c)) = H1 at s1 hy ⊢
    refine ⟨_, rfl, _, _, _, _, rfl, rfl, SqT.of (s1 _ _ hp), rfl, fun x dx nx ndx nex => ?_⟩
    have s2 : ∀ (fs : List (Str × V)), Same H1 (upd (upd H1 dx (.own x)) x (.ins T.c_Lane dx fs)) := fun fs a o e => by
      rw [upd_ne (ne_of_none e nx), upd_ne (ne_of_none e ndx)]
      exact e
    refine ⟨x, dx, y, l, rfl, upd_same, li, ⟨dy, s2 _ _ _ hy⟩, rfl, ?_⟩
    rw [upd_upd]
    exact k _ _ (s1.trans (s2 _)) ⟨x, dx, y, rfl, upd_same, ⟨dy, s2 _ _ _ hy⟩, li⟩

/-- two lists, item by item -/
inductive AllR {α β : Type} (R : α → β → Prop) : List α → List β → Prop where
  | nil : AllR R [] []
  | cons {a : α} {b : β} {as : List α} {bs : List β} : R a b → AllR R as bs → AllR R (a :: as) (b :: bs)
theorem AllR.length {α β : Type} {R : α → β → Prop} {as : List α} {bs : List β} (h : AllR R as bs) : as.length = bs.length := by
  induction h with
  | nil => rfl
  | cons _ _ ih => rw [List.length_cons, List.length_cons, ih]
theorem AllR.mono {α β : Type} {R S : α → β → Prop} {as : List α} {bs : List β} (h : AllR R as bs) (k : ∀ a b, R a b → S a b) : AllR S as bs := by
  induction h with
  | nil => exact .nil
  | cons z _ ih => exact .cons (k _ _ z) ih
theorem AllR.snoc {α β : Type} {R : α → β → Prop} {as : List α} {bs : List β} {a : α} {b : β} (h : AllR R as bs) (z : R a b) : AllR R (as ++ [a]) (bs ++ [b]) := by
  induction h with
  | nil => exact .cons z .nil
  | cons y _ ih => exact .cons y ih
theorem AllR.get {α β : Type} {R : α → β → Prop} {as : List α} {bs : List β} (h : AllR R as bs) : ∀ {i : Nat} {a : α}, as[i]? = some a → ∃ b, bs[i]? = some b ∧ R a b := by
  induction h with
  | nil => intro i a e; cases e
  | cons z _ ih =>
    intro i a e
    cases i with
    | zero => cases e; exact ⟨_, rfl, z⟩
    | succ i => exact ih e
theorem AllR.left {α β : Type} {R : α → β → Prop} {as : List α} {bs : List β} (h : AllR R as bs) {a : α} (m : a ∈ as) : ∃ b, b ∈ bs ∧ R a b := by
  obtain ⟨i, e⟩ := List.getElem?_of_mem m
  obtain ⟨b, eb, r⟩ := h.get e
  exact ⟨b, List.mem_of_getElem? eb, r⟩
/-- a drawn block's data -/
structure BD where
  t : Int
  q : Int
  c : Int
  ls : List LD
  deriving DecidableEq
structure FB (t q c : Int) : Prop where
  t1 : -9 ≤ t
  t2 : t ≤ 9
  q1 : -9 ≤ q
  q2 : q ≤ 9
  c1 : 1 ≤ c
  c2 : c ≤ 3
theorem FB.r {t q c : Int} (h : FB t q c) : FormR t q c := .small h.t1 h.t2 h.q1 h.q2 h.c1 h.c2
theorem FB.len {t q c : Int} (h : FB t q c) : (formText t q c).length ≤ 9 := short_form h.t1 h.t2 h.q1 h.q2 h.c1 h.c2
structure BI (d : BD) : Prop where
  r : FormR d.t d.q d.c
  l0 : 0 < d.ls.length
  l1 : d.ls.length ≤ 300
  li : ∀ l ∈ d.ls, LI l
/-- a drawn block -/
structure BW (d : BD) : Prop extends BI d where
  b : FB d.t d.q d.c
  l2 : d.ls.length ≤ 2
  lw : ∀ l ∈ d.ls, LW l
def FormV (H : Hp) (v : V) (t q c : Int) : Prop := ∃ p, v = .ref p ∧ H p = some (.tup [.int t, .int q, .int c]) ∧ FB t q c
def FormW (H : Hp) (v : V) : Prop := ∃ t q c, FormV H v t q c
theorem FormW.fz {H H' : Hp} {v : V} (h : FormW H v) (k : Fz H H') : FormW H' v := by
  obtain ⟨t, q, c, p, e, hp, r⟩ := h
  exact ⟨t, q, c, p, e, k _ _ trivial hp, r⟩
/-- a drawn block; its list of lanes does not stand at b -/
def BlockV (b : Addr) (H : Hp) (v : V) (d : BD) : Prop := ∃ p f L vs, v = .ref p ∧ H p = some (.tup [.ref f, .ref L]) ∧ H f = some (.tup [.int d.t, .int d.q, .int d.c]) ∧ L ≠ b ∧ H L = some (.lst vs) ∧ AllR (LaneV H) vs d.ls ∧ BW d
theorem LaneV.same {H H' : Hp} {v : V} {l : LD} (h : LaneV H v l) (k : Same H H') : LaneV H' v l := h.fz (Fz.of_same k)
theorem BlockV.same {b : Addr} {H H' : Hp} {v : V} {d : BD} (h : BlockV b H v d) (k : Same H H') : BlockV b H' v d := by
  obtain ⟨p, f, L, vs, e, hp, hf, ne, hL, a, i⟩ := h
  exact ⟨p, f, L, vs, e, k _ _ hp, k _ _ hf, ne, k _ _ hL, a.mono fun v l h => h.same k, i⟩
theorem BlockV.but {b : Addr} {H H' : Hp} {v : V} {d : BD} (h : BlockV b H v d) (B : Box H b) (k : But b H H') : BlockV b H' v d := by
  obtain ⟨p, f, L, vs, e, hp, hf, ne, hL, a, i⟩ := h
  have z := B.fz k
  exact ⟨p, f, L, vs, e, z _ _ trivial hp, z _ _ trivial hf, ne, k _ _ ne hL, a.mono fun v l h => h.fz z, i⟩
/-- t gives a value that R tells, and only makes objects -/
def EvP (te : TE) (σ : L2.St) (H : Hp) (R : Hp → V → Prop) : Prop := ∀ Q : VK, (∀ v H', Same H H' → R H' v → Q v H') → te σ H Q
structure EvI (te : TE) (σ : L2.St) (i : Int) : Prop where
  go : ∀ (H : Hp) (Q : VK), Q (.int i) H → te σ H Q
theorem evi_c {i : Int} {σ : L2.St} : EvI (tC (.int i)) σ i := ⟨fun _ _ q => q⟩
theorem evi_m {i j : Int} {σ : L2.St} : EvI (tOp (rI0 fun i j => .int (i - j)) (tC (.int i)) (tC (.int j))) σ (i - j) := ⟨fun _ _ q => ⟨_, _, rfl, rfl, q⟩⟩
theorem evp_form {a b c : TE} {t q k : Int} {σ : L2.St} {H : Hp} (ha : EvI a σ t) (hb : EvI b σ q) (hc : EvI c σ k) (h : -9 ≤ t ∧ t ≤ 9 ∧ -9 ≤ q ∧ q ≤ 9 ∧ 1 ≤ k ∧ k ≤ 3) : EvP (tTup (tCons a (tCons b (tCons c tNil)))) σ H FormW := fun Q g =>
  ha.go _ _ (hb.go _ _ (hc.go _ _ ⟨szL (Nat.le_of_ble_eq_true rfl), fun p np => g _ _ (same_new np) ⟨t, q, k, p, rfl, upd_same, ⟨h.1, h.2.1, h.2.2.1, h.2.2.2.1, h.2.2.2.2.1, h.2.2.2.2.2⟩⟩⟩))
theorem ev_cons {te : TE} {ta : TA} {σ : L2.St} {H : Hp} {Q : List V → Hp → Prop} {R : Hp → V → Prop} (h : EvP te σ H R) (q : ∀ v H1, Same H H1 → R H1 v → ta σ H1 (fun vs H2 => Q (v :: vs) H2)) : tCons te ta σ H Q := h _ fun v H1 s r => q v H1 s r
theorem ev_lst {ta : TA} {Q : VK} {σ : L2.St} {H : Hp} (h : ta σ H (fun vs H1 => vs.length ≤ sizeLine ∧ ∀ l, H1 l = none → Q (.ref l) (upd H1 l (.lst vs)))) : tLst ta σ H Q := h
theorem ev_arg {te : TE} {Q : List V → Hp → Prop} {σ : L2.St} {H : Hp} (h : te σ H (fun v H1 => Q [v] H1)) : tCons te tNil σ H Q := h
/-- its list of lanes does not stand at D -/
def Off (D : Addr) (H : Hp) (v : V) : Prop := ∃ p f L, v = .ref p ∧ H p = some (.tup [f, .ref L]) ∧ L ≠ D
theorem Off.fz {D : Addr} {H H' : Hp} {v : V} (h : Off D H v) (k : Fz H H') : Off D H' v := by
  obtain ⟨p, f, L, e, hp, n⟩ := h
  exact ⟨p, f, L, e, k _ _ trivial hp, n⟩
theorem BlockV.upd {b D : Addr} {H : Hp} {v : V} {d : BD} {xs : List V} {o : HO} (h : BlockV b H v d) (n : Off D H v) (e : H D = some (.lst xs)) : BlockV b (upd H D o) v d := by
  obtain ⟨p, f, L, vs, rfl, hp, hf, ne, hL, a, i⟩ := h
  obtain ⟨p', f', L', e', hp', n⟩ := n
  cases e'
  rw [hp] at hp'
  have e2 := Option.some.inj hp'
  injection e2 with e2
  injection e2 with _ e2
  injection e2 with e2 _
  injection e2 with e2
  subst e2
  have z : Fz H (L2.upd H D o) := Fz.lst e
  exact ⟨p, f, L, vs, rfl, z _ _ trivial hp, z _ _ trivial hf, ne, by rw [upd_ne n]; exact hL, a.mono fun v l h => h.fz z, i⟩
def spBlock : Sp := fun vs H Q _ => ∃ (b : Addr) (many far : Int), vs = [.ref b, .int many, .int far] ∧ Box H b ∧ 0 < many ∧ many ≤ 2 ∧ 2 ≤ far ∧ far ≤ 9 ∧
  ∀ (v : V) (d : BD) (H' : Hp), d.ls.length ≤ 2 → BlockV b H' v d → (∀ D o, H D = some o → Off D H' v) → Box H' b → But b H H' → Q v H'
theorem ok_block (T : Txt K mg) : FnOk P w K mg base CX0 5 T.a__law_block T.d__law_block ["_law_box_here", "_law_lanes", "_law_far"] spBlock := by
  have G__law_take : FnOk P w K mg base CX0 1 T.a__law_take T.d__law_take ["_law_box_here", "_law_many"] spTake := ok_take T
  have G__law_pick : FnOk P w K mg base CX0 2 T.a__law_pick T.d__law_pick ["_law_box_here", "_law_some"] spPick := ok_pick T
  have G__law_form : FnOk P w K mg base CX0 3 T.a__law_form T.d__law_form ["_law_box_here", "_law_far"] spForm := ok_form T
  have G__law_lane : FnOk P w K mg base CX0 4 T.a__law_lane T.d__law_lane ["_law_box_here", "_law_far"] spLane := ok_lane T
  refine T.F__law_block.ok sc__law_block (fun vs H Q E h => ?_) (fun cdv A outer s H vs Q E hr h => ?_)
  · obtain ⟨b, many, far, rfl, _⟩ := h
    rfl
  · obtain ⟨b, many, far, rfl, hB, m0, m1, f0, f1, k⟩ := h
    have nd := sc__law_block.nd
    refine ⟨_, (pss_cons (ps_set (i := 3) nd rfl (Or.inl rfl) (pe_call G__law_pick (hr.mono (by first | decide | omega)) (by rfl) T.m__law_pick T.k__law_pick T.b__law_pick .nil pass0 (pa_cons (pv 0) (pa_cons (pe_lst (pa_cons (pe_tup (pa_cons pe_int (pa_cons (pe_op op_sub pe_int pe_int) (pa_cons pe_int pa_nil)))) (pa_cons (pe_tup (pa_cons pe_int (pa_cons pe_int (pa_cons pe_int pa_nil)))) (pa_cons (pe_tup (pa_cons pe_int (pa_cons pe_int (pa_cons pe_int pa_nil)))) (pa_cons (pe_tup (pa_cons pe_int (pa_cons (pe_op op_sub pe_int pe_int) (pa_cons pe_int pa_nil)))) (pa_cons (pe_tup (pa_cons pe_int (pa_cons pe_int (pa_cons pe_int pa_nil)))) (pa_cons (pe_call G__law_form (hr.mono (by first | decide | omega)) (by rfl) T.m__law_form T.k__law_form T.b__law_form .nil pass0 (pa_cons (pv 0) (pa_cons (pv 2) pa_nil))) pa_nil))))))) pa_nil))))
    (pss_one (ps_ret (pe_tup (pa_cons (pv 3) (pa_cons (pe_lc (own := [("_law_turn", 4)]) (g := (gName 4)) (by rfl) nd (pi_range1 (by rfl) T.z_range (pa_cons (pe_op op_add pe_int (pe_call G__law_take (hr.mono (by first | decide | omega)) (by rfl) T.m__law_take T.k__law_take T.b__law_take .nil pass0 (pa_cons (pv 0) (pa_cons (pv 1) pa_nil)))) pa_nil)) (blkOk_by (N := ["_law_box_here", "_law_lanes", "_law_far", "_law_rounds", "_law_turn"]) (sc := defScope s__law_block) (own := [("_law_turn", 4)]) (by decide +kernel)) (fun _ _ _ _ _ => by exact (pg_name (i := 4) nd rfl (Or.inl rfl))) (fun _ _ _ _ _ => by exact pts_nil) (fun _ _ _ _ _ => by exact (pe_call G__law_lane (hr.mono (by first | decide | omega)) (by rfl) T.m__law_lane T.k__law_lane T.b__law_lane .nil pass0 (pa_cons (pv 0) (pa_cons (pv 2) pa_nil))))) pa_nil)))))), ?_⟩
    refine ⟨_, rfl, ?_⟩
    refine ev_arg (ev_lst ?_)
    refine ev_cons (evp_form evi_c evi_m evi_c (by decide)) fun v1 H1 s1 d1 => ?_
    refine ev_cons (evp_form evi_c evi_c evi_c (by decide)) fun v2 H2 s2 d2 => ?_
    refine ev_cons (evp_form evi_c evi_c evi_c (by decide)) fun v3 H3 s3 d3 => ?_
    refine ev_cons (evp_form evi_c evi_m evi_c (by decide)) fun v4 H4 s4 d4 => ?_
    refine ev_cons (evp_form evi_c evi_c evi_c (by decide)) fun v5 H5 s5 d5 => ?_
    have s15 := (((s1.trans s2).trans s3).trans s4).trans s5
    refine ⟨_, rfl, _, rfl, b, far, rfl, hB.same s15, f0, by omega, fun p t q c H6 t0 t1 q0 q1 c0 c1 _ hp B6 k6 => ?_⟩
    have d6 : FormW H6 (.ref p) := ⟨t, q, c, p, rfl, hp, ⟨by omega, by omega, by omega, by omega, c0, c1⟩⟩
    have z6 : Fz H5 H6 := (hB.same s15).fz k6
    refine ⟨szL (Nat.le_of_ble_eq_true rfl), fun L nL => ?_⟩
    refine ⟨b, L, _, rfl, B6.same (same_new nL), B6.ne_none nL, upd_same, by simp, by simp, fun v H7 hv B7 k7 => ?_⟩
    have z7 : Fz H6 H7 := B6.fz ((But.of_same (same_new nL)).trans k7)
    have fd : FormW H7 v := by
      simp only [List.mem_cons, List.not_mem_nil, or_false] at hv
      rcases hv with h | h | h | h | h | h
      · subst h; exact d1.fz ((Fz.of_same (((s2.trans s3).trans s4).trans s5)).trans (z6.trans z7))
      · subst h; exact d2.fz ((Fz.of_same ((s3.trans s4).trans s5)).trans (z6.trans z7))
      · subst h; exact d3.fz ((Fz.of_same (s4.trans s5)).trans (z6.trans z7))
      · subst h; exact d4.fz ((Fz.of_same s5).trans (z6.trans z7))
      · subst h; exact d5.fz (z6.trans z7)
      · subst h; exact d6.fz z7
    have k07 : But b H H7 := ((But.of_same s15).trans k6).trans ((But.of_same (same_new nL)).trans k7)
    refine ⟨_, rfl, _, rfl, _, rfl, b, many, rfl, B7, m0, by omega, fun r H8 r0 r1 B8 k8 => ?_⟩
    refine ⟨_, _, rfl, rfl, 1 + r, rfl, by omega, by omega, fun D hD => ?_⟩
    have k08 := k07.trans k8
    refine lc_range (fun i Hc => ∃ (vs : List V) (ls : List LD), Hc D = some (.lst vs) ∧ ls.length = i ∧ AllR (LaneV Hc) vs ls ∧ (∀ l ∈ ls, LW l) ∧ Box Hc b ∧ But b H8 Hc) ⟨[], [], upd_same, rfl, .nil, (fun x h => nomatch h), B8.same (same_new hD), But.of_same (same_new hD)⟩ (fun i Hc hi hP => ?_) (fun Hc hP => ?_)
    · obtain ⟨vs, ls, hA, hl, hvs, hls, Bc, kc⟩ := hP
      have neD := B8.ne_none hD
      refine ⟨rfl, _, rfl, _, rfl, b, far, rfl, Bc, f0, f1, fun u l H9 hu B9 k9 => ?_⟩
      have z9 := Bc.fz k9
      have lv := hvs.length
      have zz : Fz H9 (upd H9 D (.lst (vs ++ [u]))) := Fz.lst (k9 _ _ neD hA)
      refine ⟨vs, k9 _ _ neD hA, szl (by omega), vs ++ [u], ls ++ [l], upd_same, by rw [List.length_append, hl]; rfl, AllR.snoc (hvs.mono fun v l h => (h.fz z9).fz zz) (hu.fz zz), fun x hx => ?_, box_ne B9 neD, but_new (kc.trans k9) hD⟩
      rcases List.mem_append.mp hx with h | h
      · exact hls x h
      · rw [List.mem_singleton] at h
        subst h
        obtain ⟨_, _, _, _, _, i⟩ := hu
        exact i
    · obtain ⟨vs, ls, hA, hl, hvs, hls, Bc, kc⟩ := hP
      refine ⟨szL (Nat.le_of_ble_eq_true rfl), fun p2 np2 => ?_⟩
      have neD := B8.ne_none hD
      have zc : Fz H7 Hc := (B7.fz k8).trans (B8.fz kc)
      have k0c := k08.trans kc
      obtain ⟨t, q, c, pf, rfl, hpf, fb⟩ := (fd.fz zc)
      have neDD : ∀ D0 o, H D0 = some o → D ≠ D0 := by
        rintro D0 o hD0 rfl
        have := k08 _ _ neD hD0
        rw [hD] at this
        cases this
      have s2 := same_new (o := .tup [.ref pf, .ref D]) np2
      exact k _ ⟨t, q, c, ls⟩ _ (by show ls.length ≤ 2; omega) ⟨p2, pf, D, vs, rfl, upd_same, s2 _ _ hpf, neD, s2 _ _ hA, hvs.mono fun v l h => h.same s2, ⟨⟨fb.r, by show 0 < ls.length; omega, by show ls.length ≤ 300; omega, fun l hl => (hls l hl).toLI⟩, fb, by show ls.length ≤ 2; omega, hls⟩⟩ (fun D0 o hD0 => ⟨p2, .ref pf, D, rfl, upd_same, neDD D0 o hD0⟩) (Bc.same s2) (k0c.trans (But.of_same s2))

theorem tyx_same {K : PySem.W.Frag} {H H' : Hp} {v : V} {t : Value} (s : Same H H') (h : TyX K H v t) : TyX K H' v t := by
  cases h with
  | base b =>
    cases b with
    | non => exact .base .non
    | bl x => exact .base (.bl x)
    | int x => exact .base (.int x)
    | str x => exact .base (.str x)
    | flt x => exact .base (.flt x)
    | lst e => exact .base (.lst (s _ _ e))
    | frz e => exact .base (.frz (s _ _ e))
    | tup e => exact .base (.tup (s _ _ e))
    | dK e => exact .base (.dK (s _ _ e))
    | dT e => exact .base (.dT (s _ _ e))
    | ins e c ha hn ht hm => exact .base (.ins (s _ _ e) c ha hn ht hm)
  | byt x => exact .byt x
  | set e => exact .set (s _ _ e)
  | kList e c => exact .kList e c
  | kTuple e c => exact .kTuple e c
  | kDict e c => exact .kDict e c
  | fTuple e => exact .fTuple (s _ _ e)
  | fDict e => exact .fDict (s _ _ e)
/-- whether a value is a list or a tuple -/
def spSeq (K : PySem.W.Frag) : Sp := fun vs H Q _ => ∃ (v : V) (t : Value) (r : Bool), vs = [v] ∧ TyX K H v t ∧ PySem.W.kitAny K t [.type "list", .type "tuple"] = some r ∧ ∀ H', Same H H' → Q (.bl r) H'
theorem ok_seq (T : Txt K mg) : FnOk P w K mg base CX0 1 T.a_is_sequence T.d_is_sequence ["value"] (spSeq K) := by
  refine T.F_is_sequence.ok sc_is_sequence (fun vs H Q E h => ?_) (fun cdv A outer s H vs Q E hr h => ?_)
  · obtain ⟨v, t, r, rfl, _⟩ := h
    rfl
  · obtain ⟨v, t, r, rfl, ty, kt, k⟩ := h
    have nd := sc_is_sequence.nd
    refine ⟨_, (pss_one (ps_ret (pe_callB call_isiT (by rfl) T.z_isinstance (by decide +kernel) (pa_cons (pv 0) (pa_cons (pe_tup (pa_cons (pe_bltn (v := .ty "list") (u := .type "list") (by rfl) T.z_list (by decide +kernel) (by exact rfl)) (pa_cons (pe_bltn (v := .ty "tuple") (u := .type "tuple") (by rfl) T.z_tuple (by decide +kernel) (by exact rfl)) pa_nil))) pa_nil))))), ?_⟩
    refine ⟨_, rfl, szL (Nat.le_of_ble_eq_true rfl), fun p np => ?_⟩
    have z : TyX K (upd H p (.tup [.ty "list", .ty "tuple"])) v t := tyx_same (same_new np) ty
    exact ⟨v, p, _, t, _, r, rfl, upd_same, .cons (.ty _) (.cons (.ty _) .nil), z, kt, k _ (same_new np)⟩
theorem kit_seq_list {K : PySem.W.Frag} : PySem.W.kitAny K (.type "list") [.type "list", .type "tuple"] = some true := by
  unfold PySem.W.kitAny
  rw [show PySem.W.kitOne K (.type "list") (.type "list") = some true from by simp [PySem.W.kitOne]]
theorem kit_seq_tup {K : PySem.W.Frag} : PySem.W.kitAny K (.type "tuple") [.type "list", .type "tuple"] = some true := by
  unfold PySem.W.kitAny
  rw [show PySem.W.kitOne K (.type "tuple") (.type "list") = some false from kit_ty (by decide +kernel)]
  unfold PySem.W.kitAny
  rw [show PySem.W.kitOne K (.type "tuple") (.type "tuple") = some true from by simp [PySem.W.kitOne]]
theorem call_isiC {X : Cx} {K : PySem.W.Frag} (e : X.K = K) : CallR X (.builtin "isinstance") (rIsi K) := by
  subst e
  exact call_isi
/-- a list or a tuple, walked -/
def iSeqA (K : PySem.W.Frag) (tl : TE) : TI := fun σ H R => tl σ H fun v H1 => ∃ a, v = .ref a ∧ ((∃ xs, SqL K H1 a xs ∧ R (Itl K a) H1) ∨ (∃ xs, SqT K H1 a xs ∧ R (Itt K a) H1))
theorem pi_seqA {X : Cx} {tg l : Expr} {tl : TE} (hl : PE X l tl) : PI X tg l (iSeqA X.K tl) := by
  refine ⟨fun pins s σ H R I h => thn (hl.run pins s σ H _ I h) fun v u res => ?_⟩
  obtain ⟨x, G, J, rx, a, ex, way⟩ := res
  subst ex
  cases rx
  have new : ∀ c ∈ [u.heap.objs.size], FpOk X pins G c := fun c hc => by
    obtain rfl : c = u.heap.objs.size := by simpa using hc
    exact J.fpOk (Nat.le_refl _) (J.hok.fresh (Nat.le_refl _))
  rcases way with ⟨xs, hq, q⟩ | ⟨xs, hq, q⟩
  · obtain ⟨its, rv, p, _⟩ := J.list hq
    refine wpAny_pyIter_list p.isList ⟨u.heap.objs.size, [u.heap.objs.size], _, _, G, rfl, ?_, turn_list a _, ⟨_, Heap.get?_push_size _ rfl, rfl, rfl⟩, new, q⟩
    exact J.kept (t' := u.toks) fun c r z => Heap.get?_push_of_some _ z
  · obtain ⟨its, rv, p, _⟩ := J.tuple hq
    refine wpAny_pyIter_tuple (show u.heap.IsTuple a its.toArray from p) ⟨u.heap.objs.size, [u.heap.objs.size], _, _, G, rfl, ?_, turn_tuple a _, ⟨_, Heap.get?_push_size _ rfl, rfl, rfl⟩, new, q⟩
    exact J.kept (t' := u.toks) fun c r z => Heap.get?_push_of_some _ z

end
end K09
namespace K09
open PySem PySem.Spec PyProof.Rows L2 Rs
local macro_rules | `(tactic| walk_at "om") => `(tactic| first | omega | (dsimp only; omega))
local macro_rules | `(tactic| walk_at "side") => `(tactic| first | omega | (dsimp only; omega) | decide | (unfold CMul; omega) | (unfold CDiv; omega) | (unfold CPow; omega) | exact wide_div (b := 64) (by omega) (by omega) (by decide) (by decide))
local macro_rules | `(tactic| walk_at "hp") => `(tactic| first | assumption | exact upd_same)
local macro_rules | `(tactic| walk_at "sq") => `(tactic| first | assumption | exact SqL.of (by assumption) | exact SqL.of upd_same)
local macro_rules | `(tactic| walk_at "st") => `(tactic| first
  | refine ⟨_, rfl, ?_⟩
  | (refine ⟨_, _, rfl, rfl, And.intro ?side ?_⟩; (case side => walk_at "side"))
  | refine ⟨_, _, rfl, rfl, ?_⟩
  | (refine' ⟨_, _, _, _, rfl, rfl, SqL.of ?hp, ?atx, ?_⟩; (case hp => walk_at "hp"); (case atx => exact rfl))
  | (refine' ⟨_, _, _, _, rfl, rfl, ?hp, ?atx, ?_⟩; (case hp => walk_at "hp"); (case atx => exact rfl))
  | (refine' ⟨_, _, rfl, Or.inl ?sq, ?_⟩; (case sq => walk_at "sq"))
  | refine Or.inl ⟨_, rfl, ?_⟩
  | refine Or.inr ⟨_, rfl, ?_⟩)
local macro_rules | `(tactic| walk_at "evd") => `(tactic| first
  | exact evd_int
  | exact evd_str
  | exact evd_non
  | exact evd_bl
  | exact evd_nil
  | (refine evd_cons ?_ (fun _ => ?_) <;> walk_at "evd")
  | (refine evd_tup ?_ (Nat.le_of_ble_eq_true rfl); walk_at "evd"))

section
variable {P : Program} {w : World} {K : PySem.W.Frag} {mg : Str → Option Value} {base : Heap}
def LaneI (CL : Addr) (H : Hp) (v : V) : Prop := ∃ z dz gs, v = .ref z ∧ H z = some (.ins CL dz gs)
theorem upd_mid2 {H : Hp} {x tp : Addr} {o1 o2 o3 : HO} (n : tp ≠ x) : upd (upd (upd H x o1) tp o2) x o3 = upd (upd H tp o2) x o3 := by
  funext a
  by_cases ha : a = x
  · subst ha; rw [upd_same, upd_same]
  · rw [upd_ne ha, upd_ne ha]
    by_cases hb : a = tp
    · subst hb; rw [upd_same, upd_same]
    · rw [upd_ne hb, upd_ne hb, upd_ne ha]
def fldB (y tp : Addr) : List (Str × V) := putF "lanes" (.ref tp) (putF "rounds" (.ref y) [])
def spBlockG (K : PySem.W.Frag) (CB CF CL : Addr) : Sp := fun vs H Q _ => ∃ (x dx y a : Addr) (us : List V), vs = [.ref x, .ref y, .ref a] ∧ H x = some (.ins CB dx []) ∧ (∃ dy fs, H y = some (.ins CF dy fs)) ∧ (H a = some (.lst us) ∨ H a = some (.tup us)) ∧ 0 < us.length ∧ us.length ≤ 302 ∧ (∀ u ∈ us, LaneI CL H u) ∧
  ∀ H' tp, Same H H' → H' tp = some (.tup us) → Q .non (upd H' x (.ins CB dx (fldB y tp)))
theorem ok_blockG (T : Txt K mg) : FnOk P w K mg base CX0 2 T.a_Block___init__ T.d_Block___init__ ["self", "rounds", "lanes"] (spBlockG K T.c_Block T.c_Form T.c_Lane) := by
  have G_is_sequence : FnOk P w K mg base CX0 1 T.a_is_sequence T.d_is_sequence ["value"] (spSeq K) := ok_seq T
  refine T.F_Block___init__.ok sc_Block___init__ (fun vs H Q E h => ?_) (fun cdv A outer s H vs Q E hr h => ?_)
  · obtain ⟨x, dx, y, a, us, rfl, _⟩ := h
    rfl
  · obtain ⟨x, dx, y, a, us, rfl, hx, ⟨dy, fs, hy⟩, hseq, l0, l1, hls, k⟩ := h
    have nd := sc_Block___init__.nd
    refine ⟨_, (pss_cons (ps_if (pt_not (pt_val (pe_callB call_isi (by rfl) T.z_isinstance (by decide +kernel) (pa_cons (pv 1) (pa_cons (pe_glob rfl T.m_Form (rel_ref _)) pa_nil))))) (pss_one ps_never) pss_nil)
    (pss_cons (ps_if (PW.pt (pw_or (pt_not (pt_val (pe_call G_is_sequence (hr.mono (by first | decide | omega)) (by rfl) T.m_is_sequence T.k_is_sequence T.b_is_sequence .nil pass0 (pa_cons (pv 2) pa_nil)))) (pw_or1 (pt_cmpR op_eq (pe_callB call_len_seq (by rfl) T.z_len (by decide +kernel) (pa_cons (pv 2) pa_nil)) pe_int (nomark _))))) (pss_one ps_never) pss_nil)
    (pss_cons (ps_if (pt_not (pt_val (pe_callB (cr_all rfl) (by rfl) T.z_all (by decide +kernel) (pa_cons (pe_lc (own := [("lane", 3)]) (g := (gName 3)) (by rfl) nd (pi_seqA (pv 2)) (blkOk_by (N := ["self", "rounds", "lanes", "lane"]) (sc := defScope s_Block___init__) (own := [("lane", 3)]) (by decide +kernel)) (fun _ _ _ _ _ => by exact (pg_name (i := 3) nd rfl (Or.inl rfl))) (fun _ _ _ _ _ => by exact pts_nil) (fun _ _ _ _ _ => by exact (pe_callB (call_isiC (K := K) rfl) (by rfl) T.z_isinstance (by decide +kernel) (pa_cons (pv 3) (pa_cons (pe_glob rfl T.m_Lane (rel_ref _)) pa_nil))))) pa_nil)))) (pss_one ps_never) pss_nil)
    (pss_cons (ps_fld (pv 0) (pv 1) rfl)
    (pss_one (ps_fld (pv 0) (pe_callTy call_tuple_of (by rfl) T.z_tuple (by decide +kernel) (pa_cons (pv 2) pa_nil)) rfl)))))), ?_⟩
    refine ⟨_, rfl, _, _, _, _, _, rfl, .own _, T.I_Form.ty T.C_Form hy, kit_self, _, rfl, ifF rfl ?_⟩
    have e0 : decide (V.int (us.length : Nat) = V.int 0) = false := decide_eq_false (fun h => by injection h with h; omega)
    have nax : a ≠ x := by
      rintro rfl
      rcases hseq with h | h <;> (rw [hx] at h; cases h)
    rcases hseq with hL | hL
    · refine ⟨_, rfl, _, _, _, rfl, .base (.lst hL), kit_seq_list, fun H1 s1 => ?_⟩
      have hL1 := s1 _ _ hL
      refine ⟨_, rfl, ifF rfl ?_⟩
      refine ⟨_, rfl, _, _, rfl, .inl (SqL.of hL1), rfl, _, rfl, ifF e0 ?_⟩
      refine ⟨_, rfl, a, rfl, .inl ⟨us, SqL.of hL1, fun D hD => ?_⟩⟩
      refine lc_list (xs := us) (fun i Hc => Hc D = some (.lst ((List.replicate i true).map V.bl)) ∧ Same H1 Hc) ⟨upd_same, same_new hD⟩ (fun i Hc _ hP => SqL.of (hP.2 _ _ hL1)) (fun i y Hc hy hP => ?_) (fun Hc hP => ?_)
      · obtain ⟨hDc, sc⟩ := hP
        obtain ⟨z, dz, gs, rfl, hz⟩ := hls y (List.mem_of_getElem? hy)
        have hn := (List.getElem?_eq_some_iff.mp hy).1
        refine ⟨rfl, _, rfl, _, _, _, _, _, rfl, .own _, T.I_Lane.ty T.C_Lane (sc _ _ (s1 _ _ hz)), kit_self, ?_⟩
        exact ⟨_, hDc, szl (by rw [List.length_map, List.length_replicate]; omega), by rw [upd_same, List.replicate_succ', List.map_append]; rfl, same_lst sc hD⟩
      · obtain ⟨hDc, sc⟩ := hP
        refine ⟨D, List.replicate us.length true, rfl, SqL.of hDc, _, rfl, ifF (by simp) ?_⟩
        have sH := s1.trans sc
        refine ⟨_, rfl, _, rfl, x, T.c_Block, dx, _, rfl, sH _ _ hx, T.C_Block, T.n_Block_rounds, by decide, ?_⟩
        refine ⟨_, rfl, a, _, rfl, .inl ⟨SqL.of (by rw [upd_ne nax]; exact sH _ _ hL), fun tp ntp => ?_⟩⟩
        have ntx : tp ≠ x := by
          rintro rfl
          rw [upd_same] at ntp
          cases ntp
        refine ⟨_, rfl, x, T.c_Block, dx, _, rfl, by rw [upd_ne (Ne.symm ntx)]; exact upd_same, T.C_Block, T.n_Block_lanes, by show 1 < 1000; decide, ?_⟩
        have ntp' : Hc tp = none := by rw [upd_ne ntx] at ntp; exact ntp
        show Q .non _
        rw [upd_mid2 ntx]
        exact k _ tp (sH.trans (same_new ntp')) upd_same
    · refine ⟨_, rfl, _, _, _, rfl, .base (.tup hL), kit_seq_tup, fun H1 s1 => ?_⟩
      have hL1 := s1 _ _ hL
      refine ⟨_, rfl, ifF rfl ?_⟩
      refine ⟨_, rfl, _, _, rfl, .inr (.inl (.inl hL1)), rfl, _, rfl, ifF e0 ?_⟩
      refine ⟨_, rfl, a, rfl, .inr ⟨us, SqT.of hL1, fun D hD => ?_⟩⟩
      refine lc_tup (xs := us) (fun i Hc => Hc D = some (.lst ((List.replicate i true).map V.bl)) ∧ Same H1 Hc) ⟨upd_same, same_new hD⟩ (fun i Hc _ hP => SqT.of (hP.2 _ _ hL1)) (fun i y Hc hy hP => ?_) (fun Hc hP => ?_)
      · obtain ⟨hDc, sc⟩ := hP
        obtain ⟨z, dz, gs, rfl, hz⟩ := hls y (List.mem_of_getElem? hy)
        have hn := (List.getElem?_eq_some_iff.mp hy).1
        refine ⟨rfl, _, rfl, _, _, _, _, _, rfl, .own _, T.I_Lane.ty T.C_Lane (sc _ _ (s1 _ _ hz)), kit_self, ?_⟩
        exact ⟨_, hDc, szl (by rw [List.length_map, List.length_replicate]; omega), by rw [upd_same, List.replicate_succ', List.map_append]; rfl, same_lst sc hD⟩
      · obtain ⟨hDc, sc⟩ := hP
        refine ⟨D, List.replicate us.length true, rfl, SqL.of hDc, _, rfl, ifF (by simp) ?_⟩
        have sH := s1.trans sc
        refine ⟨_, rfl, _, rfl, x, T.c_Block, dx, _, rfl, sH _ _ hx, T.C_Block, T.n_Block_rounds, by decide, ?_⟩
        refine ⟨_, rfl, a, _, rfl, .inr ⟨SqT.of (by rw [upd_ne nax]; exact sH _ _ hL), ?_⟩⟩
        refine ⟨_, rfl, x, T.c_Block, dx, _, rfl, upd_same, T.C_Block, T.n_Block_lanes, by show 1 < 1000; decide, ?_⟩
        show Q .non _
        rw [upd_upd]
        exact k _ a sH (sH _ _ hL)

theorem fldL_eq (l : LD) (y : Addr) : fldL l y = [(Str.ofString "way", V.str l.w), (Str.ofString "sign", V.str l.s), (Str.ofString "shift", V.ref y), (Str.ofString "deed", V.str l.d)] := rfl
theorem fldB_eq (y tp : Addr) : fldB y tp = [(Str.ofString "rounds", V.ref y), (Str.ofString "lanes", V.ref tp)] := rfl
theorem fldF_inj {t q c t' q' c' : Int} (h : fldF t q c = fldF t' q' c') : t = t' ∧ q = q' ∧ c = c' := by
  have h : [(Str.ofString "times", V.int t), (Str.ofString "plus", V.int q), (Str.ofString "by", V.int c)] = [(Str.ofString "times", V.int t'), (Str.ofString "plus", V.int q'), (Str.ofString "by", V.int c')] := h
  simp only [List.cons.injEq, Prod.mk.injEq, V.int.injEq, true_and, and_true] at h
  exact h
theorem FormO.inj {C : Addr} {H : Hp} {x : Addr} {t q c t' q' c' : Int} (h : FormO C H x t q c) (h' : FormO C H x t' q' c') : t = t' ∧ q = q' ∧ c = c' := by
  obtain ⟨dx, h⟩ := h
  obtain ⟨dx', h'⟩ := h'
  rw [h] at h'
  have e := Option.some.inj h'
  injection e with _ _ e
  exact fldF_inj e
theorem LaneO.inj {CL CF : Addr} {H : Hp} {v : V} {l l' : LD} (h : LaneO CL CF H v l) (h' : LaneO CL CF H v l') : l = l' := by
  obtain ⟨x, dx, y, rfl, hx, hy, _⟩ := h
  obtain ⟨x', dx', y', e, hx', hy', _⟩ := h'
  cases e
  rw [hx] at hx'
  have e := Option.some.inj hx'
  injection e with _ _ e
  rw [fldL_eq, fldL_eq] at e
  simp only [List.cons.injEq, Prod.mk.injEq, V.str.injEq, V.ref.injEq, true_and, and_true] at e
  obtain ⟨e1, e2, e3, e4⟩ := e
  subst e3
  obtain ⟨f1, f2, f3⟩ := hy.inj hy'
  cases l
  cases l'
  simp only at e1 e2 e4 f1 f2 f3
  subst e1 e2 e4 f1 f2 f3
  rfl
theorem AllR.fn {α β : Type} {R : α → β → Prop} {as : List α} {bs cs : List β} (k : ∀ a b c, R a b → R a c → b = c) (h : AllR R as bs) : AllR R as cs → bs = cs := by
  induction h generalizing cs with
  | nil => intro h2; cases h2; rfl
  | cons z _ ih => intro h2; cases h2 with | cons z2 r2 => rw [k _ _ _ z z2, ih r2]
theorem LaneO.same {CL CF : Addr} {H H' : Hp} {v : V} {l : LD} (h : LaneO CL CF H v l) (k : Same H H') : LaneO CL CF H' v l := h.fz (Fz.of_same k)
theorem LaneO.ins {CL CF : Addr} {H : Hp} {v : V} {l : LD} (h : LaneO CL CF H v l) : LaneI CL H v := by
  obtain ⟨x, dx, y, e, hx, _⟩ := h
  exact ⟨x, dx, _, e, hx⟩
/-- whether two lanes are equal -/
def SL (CL CF : Addr) (a b : Addr) (r : Bool) (H : Hp) : Prop := ∃ l l', LaneO CL CF H (.ref a) l ∧ LaneO CL CF H (.ref b) l' ∧ r = decide (l = l')
theorem SL.mon {CL CF : Addr} (a b : Addr) (r : Bool) (H H' : Hp) (e : Ext H H') (h : SL CL CF a b r H) : SL CL CF a b r H' := by
  obtain ⟨l, l', h1, h2, h3⟩ := h
  exact ⟨l, l', h1.same e, h2.same e, h3⟩
theorem SL.ask {CL CF : Addr} (a b : Addr) (r : Bool) (H : Hp) (h : SL CL CF a b r H) : spLEq K CL CF [.ref a, .ref b] H (fun v H' => v = .bl r ∧ Ext H H') E0 := by
  obtain ⟨l, l', h1, h2, rfl⟩ := h
  exact ⟨_, _, l, rfl, h1, .inl ⟨l', h2, rfl, fun _ _ x => x⟩⟩
theorem refs {C : Addr} {S : Addr → Addr → Bool → Hp → Prop} (x y : V) (r : Bool) (H : Hp) (h : DInsB C S x y r H) : ∃ a b, x = .ref a ∧ y = .ref b ∧ (a = b → r = true) := by
  obtain ⟨a, b, _, _, _, _, e1, e2, _, _, _, e3⟩ := h
  exact ⟨a, b, e1, e2, e3⟩
theorem SL.tup {CL CF : Addr} {H : Hp} {p p' : Addr} {us us' : List V} {ls ls' : List LD} (h1 : H p = some (.tup us)) (h2 : H p' = some (.tup us')) (a1 : AllR (LaneO CL CF H) us ls) (a2 : AllR (LaneO CL CF H) us' ls') : DTupB K (DInsB CL (SL CL CF)) (.ref p) (.ref p') (decide (ls = ls')) H := by
  refine ⟨p, p', us, us', rfl, rfl, SqT.of h1, SqT.of h2, ⟨fun i => decide (ls[i]? = ls'[i]?), fun i x y ex ey => ?_, ?_⟩, fun e => ?_⟩
  · obtain ⟨l, el, hl⟩ := a1.get ex
    obtain ⟨l', el', hl'⟩ := a2.get ey
    obtain ⟨z, dz, gs, rfl, hz⟩ := hl.ins
    obtain ⟨z', dz', gs', rfl, hz'⟩ := hl'.ins
    refine ⟨z, z', dz, dz', gs, gs', rfl, rfl, hz, hz', ⟨l, l', hl, hl', ?_⟩, fun e => ?_⟩
    · simp only [el, el', Option.some.injEq]
    · subst e
      have e := hl.inj hl'
      simp only [el, el', e, decide_true]
  · rw [decide_eq_true_eq, a1.length, a2.length]
    constructor
    · intro e
      subst e
      exact ⟨rfl, fun i _ _ => by simp only [decide_true]⟩
    · rintro ⟨e, all⟩
      refine List.ext_getElem? fun i => ?_
      rcases Nat.lt_or_ge i ls.length with c | c
      · exact of_decide_eq_true (all i c (by omega))
      · rw [List.getElem?_eq_none c, List.getElem?_eq_none (by omega)]
  · subst e
    rw [h1] at h2
    have e := Option.some.inj h2
    injection e with e
    subst e
    exact decide_eq_true (AllR.fn (fun _ _ _ x y => x.inj y) a1 a2)
def BlockO (CB CL CF : Addr) (H : Hp) (v : V) (d : BD) : Prop := ∃ x dx y tp us, v = .ref x ∧ H x = some (.ins CB dx (fldB y tp)) ∧ FormO CF H y d.t d.q d.c ∧ H tp = some (.tup us) ∧ AllR (LaneO CL CF H) us d.ls ∧ BI d
theorem BlockO.fz {CB CL CF : Addr} {H H' : Hp} {v : V} {d : BD} (h : BlockO CB CL CF H v d) (k : Fz H H') : BlockO CB CL CF H' v d := by
  obtain ⟨x, dx, y, tp, us, e, hx, hy, ht, a, i⟩ := h
  exact ⟨x, dx, y, tp, us, e, k _ _ trivial hx, hy.fz k, k _ _ trivial ht, a.mono fun v l h => h.fz k, i⟩
theorem BlockO.same {CB CL CF : Addr} {H H' : Hp} {v : V} {d : BD} (h : BlockO CB CL CF H v d) (k : Same H H') : BlockO CB CL CF H' v d := h.fz (Fz.of_same k)
def spBEq (K : PySem.W.Frag) (CB CL CF : Addr) : Sp := fun vs H Q _ => ∃ (u v : V) (d : BD), vs = [u, v] ∧ BlockO CB CL CF H u d ∧
  ((∃ d', BlockO CB CL CF H v d' ∧ ∀ H', Same H H' → Q (.bl (decide (d = d'))) H') ∨ ∃ t, TyX K H v t ∧ PySem.W.kitOne K t (.ref CB) = some false ∧ Q (.bl false) H)
theorem ok_beq (T : Txt K mg) : FnOk P w K mg base CX0 5 T.a_Block___eq__ T.d_Block___eq__ ["self", "other"] (spBEq K T.c_Block T.c_Lane T.c_Form) := by
  have R_feq : FnR P w K mg base CX0 1 T.a_Form___eq__ (spFEq K T.c_Form) := fnR (ok_feq T) T.b_Form___eq__
  have R_leq : FnR P w K mg base CX0 3 T.a_Lane___eq__ (spLEq K T.c_Lane T.c_Form) := fnR (ok_leq T) T.b_Lane___eq__
  refine T.F_Block___eq__.ok sc_Block___eq__ (fun vs H Q E h => ?_) (fun cdv A outer s H vs Q E hr h => ?_)
  · obtain ⟨u, v, l, rfl, _⟩ := h
    rfl
  · obtain ⟨u, v, d, rfl, ⟨x, dx, y, tp, us, rfl, hx, hy, ht, ha, di⟩, hv⟩ := h
    have nd := sc_Block___eq__.nd
    refine ⟨_, (pss_one (ps_ret (pe_and (pe_callB call_isi (by rfl) T.z_isinstance (by decide +kernel) (pa_cons (pv 1) (pa_cons (pe_glob rfl T.m_Block (rel_ref _)) pa_nil))) (pe_and (pe_cmpR (op_eqO T.O_Form R_feq (hr.mono (by decide)) pass0) (pe_fld (pv 0) rfl) (pe_fld (pv 1) rfl) (nomark _)) (pe_one (pe_cmpR (op_eqB (rcB_tup (monB_ins SL.mon) (RcB.eqB (rcB_ins T.O_Lane R_leq pass0 SL.ask) refs)) (hr.mono (by decide))) (pe_fld (pv 0) rfl) (pe_fld (pv 1) rfl) (nomark _))))))), ?_⟩
    rcases hv with ⟨d', ⟨x', dx', y', tp', us', rfl, hx', hy', ht', ha', di'⟩, k⟩ | ⟨t, ty, kt, k⟩
    · refine ⟨_, rfl, _, _, _, _, _, rfl, .own _, T.I_Block.ty T.C_Block hx', kit_self, _, rfl, ifT rfl ?_⟩
      have no : d ≠ d' → Q (.bl false) H := fun n => by
        have k := k H (Same.refl _)
        rw [decide_eq_false n] at k
        exact k
      obtain ⟨dz, hz⟩ := id hy
      obtain ⟨dz', hz'⟩ := id hy'
      refine ⟨_, rfl, x, _, dx, _, _, rfl, hx, T.C_Block, T.n_Block_rounds, rfl, _, rfl, x', _, dx', _, _, rfl, hx', T.C_Block, T.n_Block_rounds, rfl, y, dz, _, _, rfl, hz, T.I_Form.ty T.C_Form hz', notFirst_self, y, _, _, _, _, rfl, hy, .inl ⟨y', _, _, _, rfl, hy', _, rfl, ifD (fun e2 => ?_) (fun e2 => no fun z => e2 (by rw [z]; exact ⟨rfl, rfl, rfl⟩))⟩⟩
      refine ⟨_, rfl, x, _, dx, _, _, rfl, hx, T.C_Block, T.n_Block_lanes, rfl, _, rfl, x', _, dx', _, _, rfl, hx', T.C_Block, T.n_Block_lanes, rfl, decide (d.ls = d'.ls), SL.tup ht ht' ha ha', fun H' e => ?_⟩
      have e3 : decide (d.ls = d'.ls) = decide (d = d') := by
        refine decide_eq_decide.mpr ⟨fun e3 => ?_, fun z => by rw [z]⟩
        obtain ⟨a, b, c⟩ := e2
        cases d
        cases d'
        simp only at e3 a b c
        subst e3 a b c
        rfl
      rw [e3]
      exact k H' e
    · exact ⟨_, rfl, _, _, _, _, _, rfl, .own _, ty, kt, _, rfl, ifF rfl k⟩
/-! texts -/
def nl : Str := "\n"
def roundsText (d : BD) : Str := Str.ofString "rounds " ++ formText d.t d.q d.c
def blockLines (d : BD) : List Str := roundsText d :: d.ls.map laneText
def blockText (d : BD) : Str := Txt.join nl (blockLines d)
theorem sum_le {m : Nat} : ∀ {xs : List Str}, (∀ x ∈ xs, x.length ≤ m) → (xs.map fun x => x.length).sum ≤ xs.length * m
  | [], _ => Nat.zero_le _
  | x :: xs, h => by
    have a := h x (List.mem_cons_self ..)
    have b := sum_le (xs := xs) fun y hy => h y (List.mem_cons_of_mem _ hy)
    rw [List.map_cons, List.sum_cons, List.length_cons, Nat.succ_mul]
    omega
theorem line_len {d : BD} (i : BI d) {x : Str} (h : x ∈ blockLines d) : x.length ≤ 320 := by
  rcases List.mem_cons.mp h with h | h
  · subst h
    have a := form_len i.r
    have b : (Str.ofString "rounds ").length = 7 := by decide
    unfold roundsText
    rw [Str.length_append]
    omega
  · obtain ⟨l, hl, rfl⟩ := List.mem_map.mp h
    exact lane_len (i.li l hl)
theorem lines_len {d : BD} (i : BI d) : (blockLines d).length ≤ 301 := by
  have := i.l1
  unfold blockLines
  rw [List.length_cons, List.length_map]
  omega
theorem lines_small {d : BD} (i : BI d) : ((blockLines d).map fun x => x.length).sum + (blockLines d).length * nl.length ≤ 16777216 := by
  have a := sum_le (fun x h => line_len i h)
  have b := lines_len i
  have c : nl.length = 1 := by decide
  rw [c]
  omega
def spBStr (CB CL CF : Addr) : Sp := fun vs H Q _ => ∃ (u : V) (d : BD), vs = [u] ∧ BlockO CB CL CF H u d ∧ ∀ H', Same H H' → Q (.str (blockText d)) H'
theorem ok_bstr (T : Txt K mg) : FnOk P w K mg base CX0 8 T.a_Block___str__ T.d_Block___str__ ["self"] (spBStr T.c_Block T.c_Lane T.c_Form) := by
  have R_fmt : FnR P w K mg base CX0 3 T.a_Form___str__ (spFStr T.c_Form) := fnR (ok_fstr T) T.b_Form___str__
  have R_lstr : FnR P w K mg base CX0 5 T.a_Lane___str__ (spLStr T.c_Lane T.c_Form) := fnR (ok_lstr T) T.b_Lane___str__
  refine T.F_Block___str__.ok sc_Block___str__ (fun vs H Q E h => ?_) (fun cdv A outer s H vs Q E hr h => ?_)
  · obtain ⟨u, l, rfl, _⟩ := h
    rfl
  · obtain ⟨u, d, rfl, ⟨x, dx, y, tp, us, rfl, hx, hy, ht, ha, di⟩, k⟩ := h
    have nd := sc_Block___str__.nd
    refine ⟨_, (pss_one (ps_ret (pe_join pe_str (pe_lst (pa_cons (pe_joined (.cons pe_str (.cons (pe_fmtO (pe_fld (pv 0) rfl) T.F_Form T.M_Form___str__ R_fmt (hr.mono (by decide)) pass0) .nil))) (StX.pa_star (pe_lc (own := [("lane", 1)]) (g := (gName 1)) (by rfl) nd (pi_tup (pe_fld (pv 0) rfl)) (blkOk_by (N := ["self", "lane"]) (sc := defScope s_Block___str__) (own := [("lane", 1)]) (by decide +kernel)) (fun _ _ _ _ _ => by exact (pg_name (i := 1) nd rfl (Or.inl rfl))) (fun _ _ _ _ _ => by exact pts_nil) (fun _ _ _ _ _ => by exact (pe_callTy (call_strO T.M_Lane___str__ R_lstr (hr.mono (by decide)) pass0) (by rfl) T.z_str (by decide +kernel) (pa_cons (pv 1) pa_nil)))) pa_nil)))))), ?_⟩
    have e9 := sizeLine_eq
    have w0 : Str.empty.length = 0 := rfl
    have w1 : (Str.ofString "rounds ").length = 7 := by decide
    have r := di.r
    have fl := form_len r
    have t1 := r.t1
    have q1 := r.q1
    have c1 := r.c1
    have c2 := r.c2
    obtain ⟨dz, hz⟩ := id hy
    refine ret_go ?_
    refine ⟨⟨_, rfl⟩, ?_⟩
    refine ⟨_, rfl, by simp only [Str.length_append]; omega, ?_⟩
    refine ⟨_, rfl, x, _, dx, _, _, rfl, hx, T.C_Block, T.n_Block_rounds, rfl, y, dz, _, rfl, hz, y, _, _, _, rfl, hy, t1, q1, c1, c2, _, rfl, _, rfl, by simp only [Str.length_append]; omega, ?_⟩
    refine ⟨_, rfl, x, _, dx, _, _, rfl, hx, T.C_Block, T.n_Block_lanes, rfl, tp, rfl, ⟨us, SqT.of ht⟩, fun D hD => ?_⟩
    have lu := ha.length
    have l1 := di.l1
    refine lc_tup (xs := us) (fun i Hc => Hc D = some (.lst (((d.ls.map laneText).take i).map V.str)) ∧ Same H Hc) ⟨by rw [upd_same, List.take_zero]; rfl, same_new hD⟩ (fun i Hc _ hP => SqT.of (hP.2 _ _ ht)) (fun i y Hc hy hP => ?_) (fun Hc hP => ?_)
    · obtain ⟨hDc, sc⟩ := hP
      obtain ⟨l, el, hl⟩ := ha.get hy
      obtain ⟨z, dz2, gs, rfl, hz2⟩ := hl.ins
      have hn := (List.getElem?_eq_some_iff.mp hy).1
      refine ⟨rfl, _, rfl, z, dz2, gs, rfl, sc _ _ hz2, _, l, rfl, hl.same sc, _, rfl, ?_⟩
      have eg : (d.ls.map laneText)[i]? = some (laneText l) := by
        rw [List.getElem?_map, el]
        rfl
      exact ⟨_, hDc, szl (by rw [List.length_map, List.length_take, List.length_map]; omega), by rw [upd_same, take_snoc eg, List.map_append]; rfl, same_lst sc hD⟩
    · obtain ⟨hDc, sc⟩ := hP
      rw [lu, show d.ls.length = (d.ls.map laneText).length by rw [List.length_map], List.take_length] at hDc
      refine ⟨D, _, rfl, .inr (SqL.of hDc), ?_⟩
      have eX : (Str.empty ++ Str.ofString "rounds " ++ formText d.t d.q d.c) = roundsText d := by
        unfold roundsText
        rw [Str.empty_append]
      have eL : V.str (Str.empty ++ Str.ofString "rounds " ++ formText d.t d.q d.c) :: (List.map V.str (List.map laneText d.ls) ++ []) = (blockLines d).map V.str := by
        rw [List.append_nil, eX]
        rfl
      refine ⟨by simp only [List.length_cons, List.length_append, List.length_map, List.length_nil]; omega, fun p np => ⟨nl, p, blockLines d, rfl, rfl, .inl (by rw [← eL]; exact SqL.of upd_same), lines_small di, k _ (sc.trans (same_new np))⟩⟩

end
end K09
namespace K09
open PySem PySem.Spec PyProof.Rows L2 Rs
local macro_rules | `(tactic| walk_at "om") => `(tactic| first | omega | (dsimp only; omega))
local macro_rules | `(tactic| walk_at "side") => `(tactic| first | omega | (dsimp only; omega) | decide | (unfold CMul; omega) | (unfold CDiv; omega) | (unfold CPow; omega) | exact wide_div (b := 64) (by omega) (by omega) (by decide) (by decide))
local macro_rules | `(tactic| walk_at "hp") => `(tactic| first | assumption | exact upd_same)
local macro_rules | `(tactic| walk_at "sq") => `(tactic| first | assumption | exact SqL.of (by assumption) | exact SqL.of upd_same)
local macro_rules | `(tactic| walk_at "st") => `(tactic| first
  | refine ⟨_, rfl, ?_⟩
  | (refine ⟨_, _, rfl, rfl, And.intro ?side ?_⟩; (case side => walk_at "side"))
  | refine ⟨_, _, rfl, rfl, ?_⟩
  | (refine' ⟨_, _, _, _, rfl, rfl, SqL.of ?hp, ?atx, ?_⟩; (case hp => walk_at "hp"); (case atx => exact rfl))
  | (refine' ⟨_, _, _, _, rfl, rfl, ?hp, ?atx, ?_⟩; (case hp => walk_at "hp"); (case atx => exact rfl))
  | (refine' ⟨_, _, rfl, Or.inl ?sq, ?_⟩; (case sq => walk_at "sq"))
  | refine Or.inl ⟨_, rfl, ?_⟩
  | refine Or.inr ⟨_, rfl, ?_⟩)
local macro_rules | `(tactic| walk_at "evd") => `(tactic| first
  | exact evd_int
  | exact evd_str
  | exact evd_non
  | exact evd_bl
  | exact evd_nil
  | (refine evd_cons ?_ (fun _ => ?_) <;> walk_at "evd")
  | (refine evd_tup ?_ (Nat.le_of_ble_eq_true rfl); walk_at "evd"))

section
variable {P : Program} {w : World} {K : PySem.W.Frag} {mg : Str → Option Value} {base : Heap}
def cutL (x : Nat) : List Nat → List Nat × List Nat
  | [] => ([], [])
  | y :: r => if y = x then ([], r) else ((y :: (cutL x r).1), (cutL x r).2)
theorem cutL_app {x : Nat} {b : List Nat} : ∀ {a : List Nat}, x ∉ a → cutL x (a ++ x :: b) = (a, b)
  | [], _ => if_pos rfl
  | y :: a, n => by
    have e : ¬ y = x := fun z => n (by rw [z]; exact List.mem_cons_self ..)
    have ih := cutL_app (b := b) (a := a) fun m => n (List.mem_cons_of_mem _ m)
    show (if y = x then ([], a ++ x :: b) else ((y :: (cutL x (a ++ x :: b)).1), (cutL x (a ++ x :: b)).2)) = _
    rw [if_neg e, ih]
def upP (w : List Nat) : Option Int × Option Int := if 110 ∈ w then (factorL (cutL 110 w).1, plusL (cutL 110 w).2) else (some 0, wholeL w)
theorem upP_upper {t q : Int} : upP (TL.tl (upperS t q)) = (some t, some q) := by
  rw [upper_eq]
  unfold upP
  by_cases a : t = 0
  · rw [if_pos a, if_neg no_n0, wholeL_int, a]
  · rw [if_neg a, if_pos (List.mem_append_right _ (List.mem_cons_self ..)), cutL_app no_n, factorL_head, plusL_tail]

def partU (s : Str) : List Nat := if (TL.tl s).head? = some 40 then (cutL 41 (TL.tl s).tail).1 else TL.tl s
def partC (s : Str) : Option Int := if (TL.tl s).head? = some 40 then wholeL ((cutL 41 (TL.tl s).tail).2.tail) else some 1
theorem parts_form {t q c : Int} : upP (partU (formText t q c)) = (some t, some q) ∧ partC (formText t q c) = some c := by
  unfold partU partC
  by_cases e : c = 1
  · have e1 : TL.tl (formText t q c) = TL.tl (upperS t q) := congrArg TL.tl (if_pos e)
    have nh : ¬ (TL.tl (formText t q c)).head? = some 40 := fun z => by
      rw [e1] at z
      exact no_par (t := t) (q := q) (.inl rfl) (List.mem_of_mem_head? z)
    rw [if_neg nh, if_neg nh, e1, upP_upper, e]
    exact ⟨rfl, rfl⟩
  · have e1 := over_tl (t := t) (q := q) e
    have hh : (TL.tl (formText t q c)).head? = some 40 := by rw [e1]; rfl
    rw [if_pos hh, if_pos hh, e1]
    show upP (cutL 41 (TL.tl (upperS t q) ++ 41 :: 47 :: intL c)).1 = _ ∧ wholeL (cutL 41 (TL.tl (upperS t q) ++ 41 :: 47 :: intL c)).2.tail = _
    rw [cutL_app (no_par (.inr rfl)), upP_upper]
    exact ⟨rfl, wholeL_int c⟩
theorem form_inj {t q c t' q' c' : Int} (e : formText t q c = formText t' q' c') : t = t' ∧ q = q' ∧ c = c' := by
  obtain ⟨a1, a2⟩ := parts_form (t := t) (q := q) (c := c)
  obtain ⟨b1, b2⟩ := parts_form (t := t') (q := q') (c := c')
  rw [e] at a1 a2
  rw [b1] at a1
  rw [b2] at a2
  injection a1 with a3 a4
  injection a3 with a3
  injection a4 with a4
  injection a2 with a2
  exact ⟨a3.symm, a4.symm, a2.symm⟩

/-! what signs the texts hold -/
theorem form_signs {t q c : Int} : ∀ x ∈ TL.tl (formText t q c), x ≠ 10 ∧ x ≠ 32 := by
  intro x h
  have up : ∀ x ∈ TL.tl (upperS t q), x ≠ 10 ∧ x ≠ 32 := fun x h => by
    have := upper_signs x h
    omega
  unfold formText at h
  split at h
  · exact up x h
  · have e1 : TL.tl (Str.ofString "(") = [40] := by decide
    have e2 : TL.tl (Str.ofString ")/") = [41, 47] := by decide
    simp only [TL.tl_append, List.mem_append, e1, e2, List.mem_cons, List.not_mem_nil, or_false] at h
    rcases h with h | h
    · omega
    rcases h with h | h
    · exact up x h
    rcases h with h | h
    · omega
    · have := nS_signs x h
      omega
theorem word_signs {y : Str} (h : y ∈ ways ∨ y ∈ signs ∨ y ∈ deeds) : ∀ x ∈ TL.tl y, x ≠ 10 ∧ x ≠ 32 := by
  unfold ways signs deeds at h
  simp only [List.mem_cons, List.not_mem_nil, or_false] at h
  rcases h with (h | h) | (h | h) | (h | h) <;> (subst h; decide)
theorem lane_split {l : LD} (i : LI l) : Txt.split (laneText l) blank = [l.w, l.s, formText l.t l.q l.c, l.d] := by
  refine TL.split_join (s := 32) (S := []) (by decide) (by decide +kernel) (by simp) fun p h m => ?_
  simp only [List.mem_cons, List.not_mem_nil, or_false] at h
  rcases h with h | h | h | h <;> subst h
  · exact (word_signs (.inl i.w) _ m).2 rfl
  · exact (word_signs (.inr (.inl i.s)) _ m).2 rfl
  · exact (form_signs _ m).2 rfl
  · exact (word_signs (.inr (.inr i.d)) _ m).2 rfl
theorem FormR.inj {t q c t' q' c' : Int} (_ : FormR t q c) (_ : FormR t' q' c') (e : formText t q c = formText t' q' c') : t = t' ∧ q = q' ∧ c = c' := form_inj e
theorem lane_inj {l l' : LD} (i : LI l) (i' : LI l') (e : laneText l = laneText l') : l = l' := by
  have e := congrArg (fun z => Txt.split z blank) e
  simp only [lane_split i, lane_split i', List.cons.injEq, and_true] at e
  obtain ⟨e1, e2, e3, e4⟩ := e
  obtain ⟨f1, f2, f3⟩ := i.r.inj i'.r e3
  cases l
  cases l'
  simp only at e1 e2 e4 f1 f2 f3
  subst e1 e2 e4 f1 f2 f3
  rfl
theorem lane_no_nl {l : LD} (i : LI l) : 10 ∉ TL.tl (laneText l) := by
  intro m
  rw [lane_eq] at m
  have e1 : TL.tl blank = [32] := by decide
  simp only [TL.tl_append, List.mem_append, e1, List.mem_cons, List.not_mem_nil, or_false] at m
  rcases m with h | h | h | h | h | h | h
  · exact (word_signs (.inl i.w) _ h).1 rfl
  · omega
  · exact (word_signs (.inr (.inl i.s)) _ h).1 rfl
  · omega
  · exact (form_signs _ h).1 rfl
  · omega
  · exact (word_signs (.inr (.inr i.d)) _ h).1 rfl
theorem line_no_nl {d : BD} (i : BI d) : ∀ p ∈ blockLines d, 10 ∉ TL.tl p := fun p h m => by
  rcases List.mem_cons.mp h with h | h
  · subst h
    unfold roundsText at m
    rw [TL.tl_append, List.mem_append] at m
    rcases m with m | m
    · exact absurd m (by decide)
    · exact (form_signs _ m).1 rfl
  · obtain ⟨l, hl, rfl⟩ := List.mem_map.mp h
    exact lane_no_nl (i.li l hl) m
theorem block_split {d : BD} (i : BI d) : Txt.split (blockText d) nl = blockLines d :=
  TL.split_join (s := 10) (S := []) (by decide) (by decide +kernel) (by unfold blockLines; simp) (line_no_nl i)
theorem rounds_inj {d d' : BD} (i : BI d) (i' : BI d') (e : roundsText d = roundsText d') : d.t = d'.t ∧ d.q = d'.q ∧ d.c = d'.c := by
  refine i.r.inj i'.r (tl_inj ?_)
  have e := congrArg TL.tl e
  unfold roundsText at e
  rw [TL.tl_append, TL.tl_append] at e
  exact List.append_cancel_left e
theorem lanes_inj : ∀ {ls ls' : List LD}, (∀ l ∈ ls, LI l) → (∀ l ∈ ls', LI l) → ls.map laneText = ls'.map laneText → ls = ls'
  | [], [], _, _, _ => rfl
  | [], _ :: _, _, _, e => by cases e
  | _ :: _, [], _, _, e => by cases e
  | l :: ls, l' :: ls', h, h', e => by
    rw [List.map_cons, List.map_cons] at e
    injection e with e1 e2
    rw [lane_inj (h l (List.mem_cons_self ..)) (h' l' (List.mem_cons_self ..)) e1, lanes_inj (fun z hz => h z (List.mem_cons_of_mem _ hz)) (fun z hz => h' z (List.mem_cons_of_mem _ hz)) e2]
theorem block_inj {d d' : BD} (i : BI d) (i' : BI d') (e : blockText d = blockText d') : d = d' := by
  have e := congrArg (fun z => Txt.split z nl) e
  simp only [block_split i, block_split i'] at e
  unfold blockLines at e
  injection e with e1 e2
  obtain ⟨a, b, c⟩ := rounds_inj i i' e1
  have f := lanes_inj i.li i'.li e2
  cases d
  cases d'
  simp only at a b c f
  subst a b c f
  rfl
/-- the law's text of a plan -/
def planText (ds : List BD) : Str := Txt.join nl (ds.flatMap blockLines)
theorem plan_one {d : BD} : planText [d] = blockText d := by
  unfold planText blockText
  rw [List.flatMap_cons, List.flatMap_nil, List.append_nil]
theorem di_all {b : Addr} {H : Hp} {bs : List V} {ds : List BD} (h : AllR (BlockV b H) bs ds) : ∀ d ∈ ds, BI d := by
  induction h with
  | nil => intro d h; cases h
  | cons z _ ih =>
    intro d h
    obtain ⟨_, _, _, _, _, _, _, _, _, _, i⟩ := z
    rcases List.mem_cons.mp h with h | h
    · subst h; exact i.toBI
    · exact ih d h
theorem flat_len {ds : List BD} (h : ∀ d ∈ ds, BI d) : (ds.flatMap blockLines).length ≤ ds.length * 301 := by
  induction ds with
  | nil => exact Nat.zero_le _
  | cons d ds ih =>
    have a := lines_len (h d (List.mem_cons_self ..))
    have b := ih fun z hz => h z (List.mem_cons_of_mem _ hz)
    rw [List.flatMap_cons, List.length_append, List.length_cons, Nat.succ_mul]
    omega
theorem flat_small {ds : List BD} (l : ds.length ≤ 150) (h : ∀ d ∈ ds, BI d) : ((ds.flatMap blockLines).map fun x => x.length).sum + (ds.flatMap blockLines).length * nl.length ≤ 16777216 := by
  have a := sum_le (m := 320) (xs := ds.flatMap blockLines) (fun x hx => by
    obtain ⟨d, hd, hx⟩ := List.mem_flatMap.mp hx
    exact line_len (h d hd) hx)
  have b := flat_len h
  have c : nl.length = 1 := by decide
  rw [c]
  omega
def spPlanText (K : PySem.W.Frag) : Sp := fun vs H Q _ => ∃ (a b : Addr) (bs : List V) (ds : List BD), vs = [.ref a] ∧ H a = some (.lst bs) ∧ AllR (BlockV b H) bs ds ∧ ds.length ≤ 30 ∧ ∀ H', Same H H' → Q (.str (planText ds)) H'
theorem ok_plan_text (T : Txt K mg) : FnOk P w K mg base CX0 3 T.a__law_plan_text T.d__law_plan_text ["_law_plan_here"] (spPlanText K) := by
  have G__law_form_text : FnOk P w K mg base CX0 1 T.a__law_form_text T.d__law_form_text ["_law_form_here"] (spFormText K) := ok_form_text T
  have G__law_lane_text : FnOk P w K mg base CX0 2 T.a__law_lane_text T.d__law_lane_text ["_law_lane_here"] (spLaneText K) := ok_lane_text T
  refine T.F__law_plan_text.ok sc__law_plan_text (fun vs H Q E h => ?_) (fun cdv A outer s H vs Q E hr h => ?_)
  · obtain ⟨a, b, bs, ds, rfl, _⟩ := h
    rfl
  · obtain ⟨a, b, bs, ds, rfl, ha, hbs, dl, k⟩ := h
    have nd := sc__law_plan_text.nd
    refine ⟨_, (pss_cons (ps_set (i := 1) nd rfl (Or.inl rfl) (pe_lst pa_nil))
    (pss_cons (ps_for PassesOwn.never rfl (pi_list (pv 0)) (pg_tup rfl (pgs_cons (pg_name (i := 2) nd rfl (Or.inl rfl)) (pgs_cons (pg_name (i := 3) nd rfl (Or.inl rfl)) pgs_nil)))
    (pss_cons (ps_expr (pe_bm PySem.F.plainAttrs_list PySem.F.slot_list_append PySem.F.type_list_append mt_append (pv 1) (pa_cons (pe_op op_add_str pe_str (pe_call G__law_form_text (hr.mono (by first | decide | omega)) (by rfl) T.m__law_form_text T.k__law_form_text T.b__law_form_text .nil pass0 (pa_cons (pv 2) pa_nil))) pa_nil)))
    (pss_one (ps_expr (pe_bm PySem.F.plainAttrs_list PySem.F.slot_list_extend PySem.F.type_list_extend mt_extend (pv 1) (pa_cons (pe_lc (own := [("_law_lane_here", 4)]) (g := (gName 4)) (by rfl) nd (pi_list (pv 3)) (blkOk_by (N := ["_law_plan_here", "_law_lines", "_law_rounds", "_law_lanes", "_law_lane_here"]) (sc := defScope s__law_plan_text) (own := [("_law_lane_here", 4)]) (by decide +kernel)) (fun _ _ _ _ _ => by exact (pg_name (i := 4) nd rfl (Or.inl rfl))) (fun _ _ _ _ _ => by exact pts_nil) (fun _ _ _ _ _ => by exact (pe_call G__law_lane_text (hr.mono (by first | decide | omega)) (by rfl) T.m__law_lane_text T.k__law_lane_text T.b__law_lane_text .nil pass0 (pa_cons (pv 4) pa_nil)))) pa_nil))))))
    (pss_one (ps_ret (pe_join pe_str (pv 1)))))), ?_⟩
    have e9 := sizeLine_eq
    have lb := hbs.length
    refine ⟨szL (Nat.le_of_ble_eq_true rfl), fun F nF => ?_⟩
    refine ⟨_, rfl, a, rfl, ⟨_, SqL.of (same_new nF _ _ ha)⟩, for_list (xs := bs) (fun i σ Hc => ∃ y2 y3, σ = [some (.ref a), some (.ref F), y2, y3, none] ∧ Hc F = some (.lst (((ds.take i).flatMap blockLines).map V.str)) ∧ Same H Hc)
      ⟨none, none, rfl, by rw [upd_same, List.take_zero]; rfl, same_new nF⟩ (fun i σ Hc _ hP => ?_) (fun i x σ Hc hx hP => ?_) (fun σ Hc hP => ?_)⟩
    · obtain ⟨_, _, _, _, sc⟩ := hP
      exact SqL.of (sc _ _ ha)
    · obtain ⟨y2, y3, rfl, hF, sc⟩ := hP
      obtain ⟨d, ed, hd⟩ := hbs.get hx
      have hn := (List.getElem?_eq_some_iff.mp hx).1
      obtain ⟨p, f, L, vs, rfl, hp, hf, _, hL, hvs, di⟩ := hd
      have small := flat_len (ds := ds.take i) (fun d h => di_all hbs d (List.mem_of_mem_take h))
      have l9 : (ds.take i).length ≤ 30 := by rw [List.length_take]; omega
      refine ⟨p, _, rfl, SqT.of (sc _ _ hp), rfl, _, _, rfl, _, _, rfl, rfl, ?_⟩
      refine ⟨_, rfl, .inl ⟨rfl, _, SqL.of hF⟩, ?_⟩
      refine ⟨_, rfl, f, _, _, _, rfl, SqT.of (sc _ _ hf), di.r, fun H1 s1 => ?_⟩
      have fl := form_len di.r
      have w1 : (Str.ofString "rounds ").length = 7 := by decide
      refine ⟨_, _, rfl, rfl, by omega, ?_⟩
      refine ⟨F, _, _, rfl, rfl, s1 _ _ hF, by rw [List.length_map]; omega, ?_⟩
      have s2 : Same H (upd H1 F (.lst (((ds.take i).flatMap blockLines).map V.str ++ [.str (Str.ofString "rounds " ++ formText d.t d.q d.c)]))) := same_lst (sc.trans s1) nF
      have hF2 : upd H1 F (.lst (((ds.take i).flatMap blockLines).map V.str ++ [.str (Str.ofString "rounds " ++ formText d.t d.q d.c)])) F = some (.lst (((ds.take i).flatMap blockLines).map V.str ++ [.str (Str.ofString "rounds " ++ formText d.t d.q d.c)])) := upd_same
      generalize upd H1 F _ = H2 at s2 hF2 ⊢
      dsimp only [tDrop]
      have lv := hvs.length
      have dl1 := di.l1
      refine ⟨_, rfl, .inl ⟨rfl, _, SqL.of hF2⟩, ?_⟩
      refine ⟨_, rfl, L, rfl, ⟨_, SqL.of (s2 _ _ hL)⟩, fun D hD => ?_⟩
      refine lc_list (xs := vs) (fun j Hd => Hd D = some (.lst (((d.ls.map laneText).take j).map V.str)) ∧ Same H2 Hd) ⟨by rw [upd_same, List.take_zero]; rfl, same_new hD⟩ (fun j Hd _ hP => SqL.of (hP.2 _ _ (s2 _ _ hL))) (fun j y Hd hy hP => ?_) (fun Hd hP => ?_)
      · obtain ⟨hDd, sd⟩ := hP
        obtain ⟨l, el, hl⟩ := hvs.get hy
        have hj := (List.getElem?_eq_some_iff.mp hy).1
        refine ⟨rfl, _, rfl, _, l, rfl, hl.same (s2.trans sd), fun H3 s3 => ?_⟩
        have eg : (d.ls.map laneText)[j]? = some (laneText l) := by
          rw [List.getElem?_map, el]
          rfl
        exact ⟨_, s3 _ _ hDd, szl (by rw [List.length_map, List.length_take, List.length_map]; omega), by rw [upd_same, take_snoc eg, List.map_append]; rfl, same_lst (sd.trans s3) hD⟩
      · obtain ⟨hDd, sd⟩ := hP
        rw [lv, show d.ls.length = (d.ls.map laneText).length by rw [List.length_map], List.take_length] at hDd
        refine ⟨F, D, _, _, rfl, rfl, sd _ _ hF2, hDd, by simp only [List.length_append, List.length_map, List.length_cons, List.length_nil]; omega, ?_⟩
        refine ⟨_, _, rfl, ?_, same_lst (s2.trans sd) nF⟩
        rw [upd_same, take_snoc ed, List.flatMap_append, List.map_append, List.flatMap_cons, List.flatMap_nil, List.append_nil, List.append_assoc]
        rfl
    · obtain ⟨y2, y3, rfl, hF, sc⟩ := hP
      rw [lb, List.take_length] at hF
      dsimp only
      refine ret_go ?_
      refine ⟨⟨_, rfl⟩, _, rfl, nl, F, _, rfl, rfl, .inl (SqL.of hF), flat_small (Nat.le_trans dl (by decide)) (di_all hbs), ?_⟩
      exact k _ sc

theorem op_eqOK {X : Cx} {K : PySem.W.Frag} {CX : CXT} {C g : Addr} {n : Nat} {sp : Sp} {E : XK} (e : X.K = K) (O : OwnQ K C g) (F : FnR X.prog X.w K X.mg X.base CX n g sp) (hr : Room n X.A) (hx : Passes CX X E) : OpR X (compareOp .Eq) (rEqO K C sp E) := by
  subst e
  exact op_eqO O F hr hx
theorem op_eqDK {X : Cx} {K : PySem.W.Frag} (e : X.K = K) (hu : X.A.units + 64 < cLine) : OpR X (compareOp .Eq) (rEqD K) := by
  subst e
  exact op_eqD hu
/-! lanes as data -/
def laneD (l : LD) : PyData := .tuple [.str l.w, .str l.s, .tuple [.int l.t, .int l.q, .int l.c], .str l.d]
theorem LaneV.dp {H : Hp} {v : V} {l : LD} (h : LaneV H v l) : Dp K H v (laneD l) := by
  obtain ⟨p, f, rfl, hp, hf, _⟩ := h
  exact .tup (SqT.of hp) (.cons (.str _) (.cons (.str _) (.cons (.tup (SqT.of hf) (.cons (.int _) (.cons (.int _) (.cons (.int _) .nil)))) (.cons (.str _) .nil))))
theorem laneD_ok {l : LD} (i : LI l) : okD 2 (laneD l) := okD.tuple fun d hd => by
  simp only [List.mem_cons, List.not_mem_nil, or_false] at hd
  rcases hd with rfl | rfl | rfl | rfl
  · exact ⟨word_ok (.inl i.w), Nat.zero_le _⟩
  · exact ⟨word_ok (.inr (.inl i.s)), Nat.zero_le _⟩
  · exact okD.tuple fun d hd => by
      simp only [List.mem_cons, List.not_mem_nil, or_false] at hd
      rcases hd with rfl | rfl | rfl <;> exact ⟨rfl, Nat.zero_le _⟩
  · exact ⟨word_ok (.inr (.inr i.d)), Nat.zero_le _⟩
theorem int_eqv {a b : Int} : PyData.eqv (.int a) (.int b) = decide (a = b) := by
  show (a == b) = _
  rw [Bool.eq_iff_iff]
  simp
theorem laneD_eqv {l l' : LD} : PyData.eqv (laneD l) (laneD l') = decide (l = l') := by
  show (PyData.eqv (.str l.w) (.str l'.w) && (PyData.eqv (.str l.s) (.str l'.s) && ((PyData.eqv (.int l.t) (.int l'.t) && (PyData.eqv (.int l.q) (.int l'.q) && (PyData.eqv (.int l.c) (.int l'.c) && true))) && (PyData.eqv (.str l.d) (.str l'.d) && true)))) = _
  rw [str_eqv, str_eqv, str_eqv, int_eqv, int_eqv, int_eqv, Bool.eq_iff_iff]
  cases l
  cases l'
  simp only [Bool.and_eq_true, decide_eq_true_eq, LD.mk.injEq, and_true]
  constructor
  · rintro ⟨a, b, ⟨c, d, e⟩, f⟩
    exact ⟨a, b, c, d, e, f⟩
  · rintro ⟨a, b, c, d, e, f⟩
    exact ⟨a, b, ⟨c, d, e⟩, f⟩
theorem dp_bools {H : Hp} : ∀ {bs : List Bool}, DpAll K H (bs.map V.bl) (bs.map PyData.bool)
  | [] => .nil
  | b :: bs => .cons (.bl b) dp_bools
theorem ok_bools {bs : List Bool} : okD 1 (.list (bs.map PyData.bool)) := okD.list fun d hd => by
  obtain ⟨n, _, rfl⟩ := List.mem_map.mp hd
  exact ⟨rfl, Nat.zero_le _⟩
theorem dp_strs {H : Hp} : ∀ {bs : List Str}, DpAll K H (bs.map V.str) (bs.map PyData.str)
  | [] => .nil
  | b :: bs => .cons (.str b) dp_strs
theorem LaneV.li {H : Hp} {v : V} {l : LD} (h : LaneV H v l) : LI l := by
  obtain ⟨_, _, _, _, _, i⟩ := h
  exact i.toLI
theorem cut_tail {x : V} {xs : List V} : cutV (x :: xs) (some 1) none = xs := by
  unfold cutV
  rw [show (some (1 : Int)) = some ((1 : Nat) : Int) from rfl, HT.sIx_none, HT.sIx_nat, List.length_cons, Nat.min_eq_left (by omega), List.drop_succ_cons, List.drop_zero, Nat.add_sub_cancel, List.take_length]
theorem joinL_le {S : List Nat} : ∀ {ps : List (List Nat)}, (TL.joinL S ps).length ≤ (ps.map fun x => x.length).sum + ps.length * S.length
  | [] => Nat.zero_le _
  | [p] => by
    show p.length ≤ _
    simp only [List.map_cons, List.map_nil, List.sum_cons, List.sum_nil]
    omega
  | p :: q :: r => by
    have ih := joinL_le (S := S) (ps := q :: r)
    show (p ++ (S ++ TL.joinL S (q :: r))).length ≤ _
    rw [List.length_append, List.length_append, List.map_cons, List.sum_cons, List.length_cons (as := q :: r), Nat.succ_mul]
    omega
theorem join_len {y : Str} {xs : List Str} : (Txt.join y xs).length ≤ (xs.map fun x => x.length).sum + xs.length * y.length := by
  have h := joinL_le (S := TL.tl y) (ps := xs.map TL.tl)
  rw [← TL.tl_join, ← TL.join_eq, tl_length, tl_length, List.length_map, List.map_map] at h
  refine Nat.le_trans h (Nat.le_of_eq ?_)
  congr 2
theorem ifs_go {c : TT} {t u : TS} {D : Ends} {σ : L2.St} {H : Hp} (h : c σ H fun b H1 => if b = true then t D σ H1 else u D σ H1) : tIfS c t u D σ H := h
theorem ok_of (t : String) : PyData.strOk (Str.ofString t) = true := by
  rw [Str.ofString_eq_toList]
  unfold PyData.strOk
  rw [Array.all_eq_true']
  intro x hx
  rw [List.mem_toArray, List.mem_map] at hx
  obtain ⟨c, _, rfl⟩ := hx
  refine decide_eq_true ?_
  have := c.valid
  rcases this with h | h
  · show c.val.toNat < 1114112
    have : c.val.toNat < 55296 := h
    omega
  · exact h.2
theorem ok_app {a b : Str} (ha : PyData.strOk a = true) (hb : PyData.strOk b = true) : PyData.strOk (a ++ b) = true := by
  unfold PyData.strOk at ha hb ⊢
  rw [Str.cps_append, Array.all_append, ha, hb]
  rfl
theorem ok_joinS {sep : Str} (hs : PyData.strOk sep = true) : ∀ {xs : List Str}, (∀ x ∈ xs, PyData.strOk x = true) → PyData.strOk (Str.join sep xs) = true
  | [], _ => by
    show (#[] : Array Nat).all (· < 0x110000) = true
    simp
  | [x], h => h x List.mem_cons_self
  | x :: y :: r, h => ok_app (ok_app (h x List.mem_cons_self) hs) (ok_joinS (xs := y :: r) hs fun z hz => h z (List.mem_cons_of_mem _ hz))
theorem ok_join {sep : Str} (hs : PyData.strOk sep = true) {xs : List Str} (h : ∀ x ∈ xs, PyData.strOk x = true) : PyData.strOk (Txt.join sep xs) = true := by
  have e : Txt.join sep xs = Str.join sep xs := StrLaws.glued_eq_join sep xs
  rw [e]
  exact ok_joinS hs h
theorem form_small {t q c : Int} : PyData.strOk (formText t q c) = true := by
  unfold PyData.strOk
  rw [Array.all_eq_true']
  intro x h
  have h : x ∈ TL.tl (formText t q c) := Array.mem_toList_iff.mpr h
  have up : ∀ x ∈ TL.tl (upperS t q), x < 1114112 := fun x h => by
    have := upper_signs x h
    omega
  refine decide_eq_true ?_
  unfold formText at h
  split at h
  · exact up x h
  · have e1 : TL.tl (Str.ofString "(") = [40] := by decide
    have e2 : TL.tl (Str.ofString ")/") = [41, 47] := by decide
    simp only [TL.tl_append, List.mem_append, e1, e2, List.mem_cons, List.not_mem_nil, or_false] at h
    rcases h with h | h
    · omega
    rcases h with h | h
    · exact up x h
    rcases h with h | h
    · omega
    · have := nS_signs x h
      omega
theorem lane_small {l : LD} (i : LI l) : PyData.strOk (laneText l) = true := ok_join (ok_of _) fun x hx => by
  simp only [List.mem_cons, List.not_mem_nil, or_false] at hx
  rcases hx with rfl | rfl | rfl | rfl
  · exact word_ok (.inl i.w)
  · exact word_ok (.inr (.inl i.s))
  · exact form_small
  · exact word_ok (.inr (.inr i.d))
theorem lanes_ok {ls : List LD} (h : ∀ l ∈ ls, LI l) : okD 1 (.list ((ls.map laneText).map PyData.str)) := okD.list fun d hd => by
  obtain ⟨x, hx, rfl⟩ := List.mem_map.mp hd
  obtain ⟨l, hl, rfl⟩ := List.mem_map.mp hx
  exact ⟨lane_small (h l hl), Nat.zero_le _⟩
theorem make_block {CB CF CL : Addr} {H : Hp} {x dx xr dr a : Addr} {t q c : Int} {us : List V} {ls : List LD} {Q : VK} (hxr : H xr = some (.ins CF dr (fldF t q c))) (ha : H a = some (.lst us) ∨ H a = some (.tup us)) (hus : AllR (LaneO CL CF H) us ls) (di : BI ⟨t, q, c, ls⟩) (nx : H x = none) (nd : H dx = none)
    (k : ∀ H', Same H H' → BlockO CB CL CF H' (.ref x) ⟨t, q, c, ls⟩ → Q .non H') : spBlockG K CB CF CL [.ref x, .ref xr, .ref a] (upd (upd H dx (.own x)) x (.ins CB dx [])) Q E0 := by
  have sb := same_two (o1 := .own x) (o2 := .ins CB dx []) nx nd
  have hgb := hus.mono fun v l h => h.same sb
  have e := hus.length
  have l0 := di.l0
  have l1 := di.l1
  dsimp only at l0 l1
  refine ⟨x, dx, xr, a, us, rfl, upd_same, ⟨dr, _, sb _ _ hxr⟩, ha.imp (sb _ _) (sb _ _), by omega, by omega, fun y hy => ?_, fun H10 tp s10 htp => ?_⟩
  · obtain ⟨l, _, hl⟩ := hgb.left hy
    exact hl.ins
  have s3 : Same H (upd H10 x (.ins CB dx (fldB xr tp))) := same_make nx nd s10
  have hx7 : H10 x = some (.ins CB dx []) := s10 _ _ upd_same
  have ntx : tp ≠ x := by
    rintro rfl
    rw [hx7] at htp
    cases htp
  have htp3 : upd H10 x (.ins CB dx (fldB xr tp)) tp = some (.tup us) := by
    rw [upd_ne ntx]
    exact htp
  exact k _ s3 ⟨x, dx, xr, tp, us, rfl, upd_same, ⟨dr, s3 _ _ hxr⟩, htp3, hus.mono fun v l h => h.same s3, di⟩
theorem BlockV.bi {b : Addr} {H : Hp} {v : V} {d : BD} (h : BlockV b H v d) : BI d := by
  obtain ⟨_, _, _, _, _, _, _, _, _, _, i⟩ := h
  exact i.toBI

end
end K09
namespace K09
open PySem PySem.Spec PyProof.Rows L2 Rs
local macro_rules | `(tactic| walk_at "om") => `(tactic| first | omega | (dsimp only; omega))
local macro_rules | `(tactic| walk_at "side") => `(tactic| first | omega | (dsimp only; omega) | decide | (unfold CMul; omega) | (unfold CDiv; omega) | (unfold CPow; omega) | exact wide_div (b := 64) (by omega) (by omega) (by decide) (by decide))
local macro_rules | `(tactic| walk_at "hp") => `(tactic| first | assumption | exact upd_same)
local macro_rules | `(tactic| walk_at "sq") => `(tactic| first | assumption | exact SqL.of (by assumption) | exact SqL.of upd_same)
local macro_rules | `(tactic| walk_at "st") => `(tactic| first
  | refine ⟨_, rfl, ?_⟩
  | (refine ⟨_, _, rfl, rfl, And.intro ?side ?_⟩; (case side => walk_at "side"))
  | refine ⟨_, _, rfl, rfl, ?_⟩
  | (refine' ⟨_, _, _, _, rfl, rfl, SqL.of ?hp, ?atx, ?_⟩; (case hp => walk_at "hp"); (case atx => exact rfl))
  | (refine' ⟨_, _, _, _, rfl, rfl, ?hp, ?atx, ?_⟩; (case hp => walk_at "hp"); (case atx => exact rfl))
  | (refine' ⟨_, _, rfl, Or.inl ?sq, ?_⟩; (case sq => walk_at "sq"))
  | refine Or.inl ⟨_, rfl, ?_⟩
  | refine Or.inr ⟨_, rfl, ?_⟩)
local macro_rules | `(tactic| walk_at "evd") => `(tactic| first
  | exact evd_int
  | exact evd_str
  | exact evd_non
  | exact evd_bl
  | exact evd_nil
  | (refine evd_cons ?_ (fun _ => ?_) <;> walk_at "evd")
  | (refine evd_tup ?_ (Nat.le_of_ble_eq_true rfl); walk_at "evd"))

section
variable {P : Program} {w : World} {K : PySem.W.Frag} {mg : Str → Option Value} {base : Heap}
theorem Same.seqT {H H' : Hp} {a : Addr} {xs : List V} (s : Same H H') (h : SqT K H a xs) : SqT K H' a xs := (Fz.of_same s).sqT h
/-- a list or a tuple of blocks: made; its tuple is new, or the one that was handed -/
def spPlanS (K : PySem.W.Frag) (CP CB : Addr) : Sp := fun vs H Q _ => ∃ (x dx a : Addr) (xs : List V), vs = [.ref x, .ref a] ∧ H x = some (.ins CP dx []) ∧ xs.length ≤ 1000 ∧ (∀ y ∈ xs, InsOf CB H y) ∧
  ((H a = some (.lst xs) ∧ ∀ H' tp d, Same H H' → H' tp = some (.tup xs) → Q .non (upd H' x (.ins CP dx (planF tp d)))) ∨ (SqT K H a xs ∧ ∀ H' d, Same H H' → Q .non (upd H' x (.ins CP dx (planF a d)))))
theorem ok_planS (T : Txt K mg) : FnOk P w K mg base CX0 2 T.a_Plan___init__ T.d_Plan___init__ ["self", "blocks"] (spPlanS K T.c_Plan T.c_Block) := by
  have G_is_sequence : FnOk P w K mg base CX0 1 T.a_is_sequence T.d_is_sequence ["value"] (spSeq K) := ok_seq T
  refine T.F_Plan___init__.ok sc_Plan___init__ (fun vs H Q E h => ?_) (fun cdv A outer s H vs Q E hr h => ?_)
  · obtain ⟨x, dx, a, xs, rfl, _⟩ := h
    rfl
  · obtain ⟨x, dx, a, xs, rfl, hx, xl, hxs, hseq⟩ := h
    have nd := sc_Plan___init__.nd
    refine ⟨_, (pss_cons (ps_if (PW.pt (pw_or (pt_not (pt_val (pe_call G_is_sequence (hr.mono (by first | decide | omega)) (by rfl) T.m_is_sequence T.k_is_sequence T.b_is_sequence .nil pass0 (pa_cons (pv 1) pa_nil)))) (pw_or1 (pt_not (pt_val (pe_callB (cr_all rfl) (by rfl) T.z_all (by decide +kernel) (pa_cons (pe_lc (own := [("block", 2)]) (g := (gName 2)) (by rfl) nd (pi_seqA (pv 1)) (blkOk_by (N := ["self", "blocks", "block"]) (sc := defScope s_Plan___init__) (own := [("block", 2)]) (by decide +kernel)) (fun _ _ _ _ _ => by exact (pg_name (i := 2) nd rfl (Or.inl rfl))) (fun _ _ _ _ _ => by exact pts_nil) (fun _ _ _ _ _ => by exact (pe_callB (call_isiC (K := K) rfl) (by rfl) T.z_isinstance (by decide +kernel) (pa_cons (pv 2) (pa_cons (pe_glob rfl T.m_Block (rel_ref _)) pa_nil))))) pa_nil))))))) (pss_one ps_never) pss_nil)
    (pss_cons (ps_fld (pv 0) (pe_callTy call_tuple_of (by rfl) T.z_tuple (by decide +kernel) (pa_cons (pv 1) pa_nil)) rfl)
    (pss_one (ps_fld (pv 0) pe_dnewK rfl)))), ?_⟩
    rcases hseq with ⟨ha, good⟩ | ⟨ha, good⟩
    · refine ⟨_, rfl, _, _, _, rfl, .base (.lst ha), kit_seq_list, fun H1 s1 => ⟨_, rfl, ifF rfl ?_⟩⟩
      have ha1 : SqL K H1 a xs := SqL.of (s1 _ _ ha)
      refine ⟨_, rfl, a, rfl, .inl ⟨xs, ha1, fun D hD => ?_⟩⟩
      refine lc_list (xs := xs) (fun i Hc => Hc D = some (.lst ((List.replicate i true).map V.bl)) ∧ Same H1 Hc) ⟨upd_same, same_new hD⟩ (fun i Hc _ hP => hP.2.seq ha1) (fun i y Hc hy hP => ?_) (fun Hc hP => ?_)
      · obtain ⟨hDc, sc⟩ := hP
        obtain ⟨z, dz, gs, rfl, hz⟩ := hxs y (List.mem_of_getElem? hy)
        have hn := (List.getElem?_eq_some_iff.mp hy).1
        refine ⟨rfl, _, rfl, _, _, _, _, _, rfl, .own _, T.I_Block.ty T.C_Block (sc _ _ (s1 _ _ hz)), kit_self, ?_⟩
        exact ⟨_, hDc, szl' (by rw [List.length_map, List.length_replicate]; omega), by rw [upd_same, List.replicate_succ', List.map_append]; rfl, same_lst sc hD⟩
      · obtain ⟨hDc, sc⟩ := hP
        have sH := s1.trans sc
        refine ⟨D, List.replicate xs.length true, rfl, SqL.of hDc, _, rfl, ifF (by simp) ?_⟩
        refine ⟨_, rfl, a, _, rfl, .inl ⟨sc.seq ha1, fun tp ntp => ?_⟩⟩
        have ntx : tp ≠ x := ne_of_none' (sH _ _ hx) ntp
        refine ⟨_, rfl, x, T.c_Plan, dx, _, rfl, by rw [upd_ne (Ne.symm ntx)]; exact sH _ _ hx, T.C_Plan, T.n_Plan_blocks, by decide, ?_⟩
        refine fun d nd9 => ?_
        have nex : d ≠ x := fun e => by
          rw [e, upd_same] at nd9
          cases nd9
        rw [upd_ne nex] at nd9
        refine ⟨_, rfl, x, T.c_Plan, dx, _, rfl, by rw [upd_ne (Ne.symm nex)]; exact upd_same, T.C_Plan, T.n_Plan_found, by show 1 < 1000; decide, ?_⟩
        rw [upd_mid nex]
        exact good _ tp d ((sH.trans (same_new ntp)).trans (same_new nd9)) (same_new nd9 _ _ upd_same)
    · refine ⟨_, rfl, _, _, _, rfl, sqT_ty ha, kit_seq_tup, fun H1 s1 => ⟨_, rfl, ifF rfl ?_⟩⟩
      have ha1 : SqT K H1 a xs := Same.seqT s1 ha
      refine ⟨_, rfl, a, rfl, .inr ⟨xs, ha1, fun D hD => ?_⟩⟩
      refine lc_tup (xs := xs) (fun i Hc => Hc D = some (.lst ((List.replicate i true).map V.bl)) ∧ Same H1 Hc) ⟨upd_same, same_new hD⟩ (fun i Hc _ hP => Same.seqT hP.2 ha1) (fun i y Hc hy hP => ?_) (fun Hc hP => ?_)
      · obtain ⟨hDc, sc⟩ := hP
        obtain ⟨z, dz, gs, rfl, hz⟩ := hxs y (List.mem_of_getElem? hy)
        have hn := (List.getElem?_eq_some_iff.mp hy).1
        refine ⟨rfl, _, rfl, _, _, _, _, _, rfl, .own _, T.I_Block.ty T.C_Block (sc _ _ (s1 _ _ hz)), kit_self, ?_⟩
        exact ⟨_, hDc, szl' (by rw [List.length_map, List.length_replicate]; omega), by rw [upd_same, List.replicate_succ', List.map_append]; rfl, same_lst sc hD⟩
      · obtain ⟨hDc, sc⟩ := hP
        have sH := s1.trans sc
        refine ⟨D, List.replicate xs.length true, rfl, SqL.of hDc, _, rfl, ifF (by simp) ?_⟩
        refine ⟨_, rfl, a, _, rfl, .inr ⟨Same.seqT sc ha1, ?_⟩⟩
        refine ⟨_, rfl, x, T.c_Plan, dx, _, rfl, sH _ _ hx, T.C_Plan, T.n_Plan_blocks, by decide, ?_⟩
        refine fun d nd9 => ?_
        have nex : d ≠ x := fun e => by
          rw [e, upd_same] at nd9
          cases nd9
        rw [upd_ne nex] at nd9
        refine ⟨_, rfl, x, T.c_Plan, dx, _, rfl, by rw [upd_ne (Ne.symm nex)]; exact upd_same, T.C_Plan, T.n_Plan_found, by show 1 < 1000; decide, ?_⟩
        rw [upd_mid nex]
        exact good _ d (sH.trans (same_new nd9))

def PlanO (CP CB CL CF : Addr) (H : Hp) (v : V) (ds : List BD) : Prop := ∃ x dx tp bs d, v = .ref x ∧ H x = some (.ins CP dx (planF tp d)) ∧ H tp = some (.tup bs) ∧ AllR (BlockO CB CL CF H) bs ds
theorem PlanO.fz {CP CB CL CF : Addr} {H H' : Hp} {v : V} {ds : List BD} (h : PlanO CP CB CL CF H v ds) (k : Fz H H') : PlanO CP CB CL CF H' v ds := by
  obtain ⟨x, dx, tp, bs, d, e, hx, ht, a⟩ := h
  exact ⟨x, dx, tp, bs, d, e, k _ _ trivial hx, k _ _ trivial ht, a.mono fun v l h => h.fz k⟩
def spPlanOf (CP CB CL CF : Addr) : Sp := fun vs H Q _ => ∃ (a b : Addr) (bs : List V) (ds : List BD), vs = [.ref a] ∧ H a = some (.lst bs) ∧ AllR (BlockV b H) bs ds ∧ ds.length ≤ 100 ∧ ∀ u H', Same H H' → PlanO CP CB CL CF H' u ds → Q u H'
theorem BlockO.ins {CB CL CF : Addr} {H : Hp} {v : V} {d : BD} (h : BlockO CB CL CF H v d) : InsOf CB H v := by
  obtain ⟨x, dx, y, tp, us, e, hx, _⟩ := h
  exact ⟨x, dx, _, e, hx⟩
theorem ok_plan_of (T : Txt K mg) : FnOk P w K mg base CX0 5 T.a__law_plan_of T.d__law_plan_of ["_law_plan_here"] (spPlanOf T.c_Plan T.c_Block T.c_Lane T.c_Form) := by
  have GI_Form : FnOk P w K mg base CX0 2 T.a_Form___init__ T.d_Form___init__ ["self", "times", "plus", "by"] (spFormG T.c_Form) := ok_formG T
  have GI_Block : FnOk P w K mg base CX0 2 T.a_Block___init__ T.d_Block___init__ ["self", "rounds", "lanes"] (spBlockG K T.c_Block T.c_Form T.c_Lane) := ok_blockG T
  have GI_Plan : FnOk P w K mg base CX0 2 T.a_Plan___init__ T.d_Plan___init__ ["self", "blocks"] (spPlanS K T.c_Plan T.c_Block) := ok_planS T
  have G__law_lane_of : FnOk P w K mg base CX0 4 T.a__law_lane_of T.d__law_lane_of ["_law_lane_here"] (spLaneOf T.c_Lane T.c_Form) := ok_lane_of T
  refine T.F__law_plan_of.ok sc__law_plan_of (fun vs H Q E h => ?_) (fun cdv A outer s H vs Q E hr h => ?_)
  · obtain ⟨a, b, bs, ds, rfl, _⟩ := h
    rfl
  · obtain ⟨a, b, bs, ds, rfl, ha, hbs, dl, k⟩ := h
    have nd := sc__law_plan_of.nd
    refine ⟨_, (pss_cons (ps_set (i := 1) nd rfl (Or.inl rfl) (pe_lst pa_nil))
    (pss_cons (ps_for PassesOwn.never rfl (pi_list (pv 0)) (pg_tup rfl (pgs_cons (pg_name (i := 2) nd rfl (Or.inl rfl)) (pgs_cons (pg_name (i := 3) nd rfl (Or.inl rfl)) pgs_nil)))
    (pss_one (ps_expr (pe_bm PySem.F.plainAttrs_list PySem.F.slot_list_append PySem.F.type_list_append mt_append (pv 1) (pa_cons (pe_make T.M_Block GI_Block (hr.mono (by first | decide | omega)) (by rfl) T.m_Block T.b_Block___init__ .nil pass0 (pa_cons (pe_make T.M_Form GI_Form (hr.mono (by first | decide | omega)) (by rfl) T.m_Form T.b_Form___init__ .nil pass0 (pa_cons (pe_ix ix_tup (pv 2) pe_int (fun _ _ => rfl)) (pa_cons (pe_ix ix_tup (pv 2) pe_int (fun _ _ => rfl)) (pa_cons (pe_ix ix_tup (pv 2) pe_int (fun _ _ => rfl)) pa_nil)))) (pa_cons (pe_lc (own := [("_law_lane_here", 4)]) (g := (gName 4)) (by rfl) nd (pi_list (pv 3)) (blkOk_by (N := ["_law_plan_here", "_law_found", "_law_rounds", "_law_lanes", "_law_lane_here"]) (sc := defScope s__law_plan_of) (own := [("_law_lane_here", 4)]) (by decide +kernel)) (fun _ _ _ _ _ => by exact (pg_name (i := 4) nd rfl (Or.inl rfl))) (fun _ _ _ _ _ => by exact pts_nil) (fun _ _ _ _ _ => by exact (pe_call G__law_lane_of (hr.mono (by first | decide | omega)) (by rfl) T.m__law_lane_of T.k__law_lane_of T.b__law_lane_of .nil pass0 (pa_cons (pv 4) pa_nil)))) pa_nil))) pa_nil)))))
    (pss_one (ps_ret (pe_make T.M_Plan GI_Plan (hr.mono (by first | decide | omega)) (by rfl) T.m_Plan T.b_Plan___init__ .nil pass0 (pa_cons (pv 1) pa_nil)))))), ?_⟩
    have lb := hbs.length
    refine ⟨szL (Nat.le_of_ble_eq_true rfl), fun F nF => ?_⟩
    refine ⟨_, rfl, a, rfl, ⟨_, SqL.of (same_new nF _ _ ha)⟩, for_list (xs := bs) (fun i σ Hc => ∃ y2 y3 ys, σ = [some (.ref a), some (.ref F), y2, y3, none] ∧ Hc F = some (.lst ys) ∧ AllR (BlockO T.c_Block T.c_Lane T.c_Form Hc) ys (ds.take i) ∧ Same H Hc)
      ⟨none, none, [], rfl, upd_same, .nil, same_new nF⟩ (fun i σ Hc _ hP => ?_) (fun i x σ Hc hx hP => ?_) (fun σ Hc hP => ?_)⟩
    · obtain ⟨_, _, _, _, _, _, sc⟩ := hP
      exact SqL.of (sc _ _ ha)
    · obtain ⟨y2, y3, ys, rfl, hF, hys, sc⟩ := hP
      obtain ⟨d, ed, hd⟩ := hbs.get hx
      have hn := (List.getElem?_eq_some_iff.mp hx).1
      obtain ⟨p, f, L, vs, rfl, hp, hf, _, hL, hvs, di⟩ := hd.same sc
      have l9 := hys.length
      rw [List.length_take] at l9
      have lv := hvs.length
      have dl1 := di.l1
      have dl0 := di.l0
      refine ⟨p, _, rfl, SqT.of hp, rfl, _, _, rfl, _, _, rfl, rfl, ?_⟩
      refine ⟨_, rfl, .inl ⟨rfl, _, SqL.of hF⟩, ?_⟩
      refine ⟨_, rfl, _, _, _, _, rfl, rfl, SqT.of hf, rfl, ?_⟩
      refine ⟨_, rfl, _, _, _, _, rfl, rfl, SqT.of hf, rfl, ?_⟩
      refine ⟨_, rfl, _, _, _, _, rfl, rfl, SqT.of hf, rfl, ?_⟩
      refine fun x1 dx1 nx1 ndx1 ne1 => ⟨x1, dx1, d.t, d.q, d.c, rfl, upd_same, di.r.c1, rfl, ?_⟩
      have s1 := same_made (o1 := .own x1) (o2 := .ins T.c_Form dx1 []) (o3 := .ins T.c_Form dx1 (fldF d.t d.q d.c)) nx1 ndx1
      have hx1 : upd (upd (upd Hc dx1 (.own x1)) x1 (.ins T.c_Form dx1 [])) x1 (.ins T.c_Form dx1 (fldF d.t d.q d.c)) x1 = some (.ins T.c_Form dx1 (fldF d.t d.q d.c)) := upd_same
      generalize upd (upd (upd Hc dx1 (.own x1)) x1 (.ins T.c_Form dx1 [])) x1 (.ins T.c_Form dx1 (fldF d.t d.q d.c)) = H1 at s1 hx1 ⊢
      refine ⟨_, rfl, L, rfl, ⟨_, SqL.of (s1 _ _ hL)⟩, fun D hD => ?_⟩
      refine lc_list (xs := vs) (fun i Hd => ∃ us, Hd D = some (.lst us) ∧ AllR (LaneO T.c_Lane T.c_Form Hd) us (d.ls.take i) ∧ Same H1 Hd) ⟨[], upd_same, .nil, same_new hD⟩ (fun i Hd _ hP => ?_) (fun i y Hd hy hP => ?_) (fun Hd hP => ?_)
      · obtain ⟨_, _, _, sd⟩ := hP
        exact SqL.of (sd _ _ (s1 _ _ hL))
      · obtain ⟨us, hDd, hus, sd⟩ := hP
        obtain ⟨l, el, hl⟩ := hvs.get hy
        have hj := (List.getElem?_eq_some_iff.mp hy).1
        have lu := hus.length
        rw [List.length_take] at lu
        refine ⟨rfl, _, rfl, _, l, rfl, hl.same (s1.trans sd), fun u H2 s2 hu => ?_⟩
        have hD2 := s2 _ _ hDd
        have zz : Fz H2 (upd H2 D (.lst (us ++ [u]))) := Fz.lst hD2
        refine ⟨us, hD2, szl' (by omega), us ++ [u], upd_same, ?_, same_lst (sd.trans s2) hD⟩
        rw [take_snoc el]
        exact (hus.mono fun v l h => (h.same s2).fz zz).snoc (hu.fz zz)
      · obtain ⟨us, hDd, hus, sd⟩ := hP
        rw [lv, List.take_length] at hus
        have lu := hus.length
        refine fun x2 dx2 nx2 ndx2 ne2 => ⟨x2, dx2, x1, D, us, rfl, upd_same, ⟨dx1, _, same_two nx2 ndx2 _ _ (sd _ _ hx1)⟩, .inl (same_two nx2 ndx2 _ _ hDd), by omega, by omega, fun y hy => ?_, fun H2 tp s2 htp => ⟨rfl, ?_⟩⟩
        · obtain ⟨l, _, hl⟩ := (hus.mono fun v l h => h.same (same_two nx2 ndx2)).left hy
          exact hl.ins
        have hx2 : H2 x2 = some (.ins T.c_Block dx2 []) := s2 _ _ upd_same
        have s3 : Same Hd (upd H2 x2 (.ins T.c_Block dx2 (fldB x1 tp))) := same_make nx2 ndx2 s2
        have ntx : tp ≠ x2 := by
          rintro rfl
          rw [hx2] at htp
          cases htp
        have htp3 : upd H2 x2 (.ins T.c_Block dx2 (fldB x1 tp)) tp = some (.tup us) := by
          rw [upd_ne ntx]
          exact htp
        have hb : upd H2 x2 (.ins T.c_Block dx2 (fldB x1 tp)) x2 = some (.ins T.c_Block dx2 (fldB x1 tp)) := upd_same
        generalize upd H2 x2 (.ins T.c_Block dx2 (fldB x1 tp)) = H3 at s3 htp3 hb ⊢
        have sc3 := (s1.trans sd).trans s3
        have hF3 := sc3 _ _ hF
        refine ⟨F, ys, _, rfl, rfl, hF3, szl' (by omega), ?_⟩
        have zz : Fz H3 (upd H3 F (.lst (ys ++ [.ref x2]))) := Fz.lst hF3
        refine ⟨_, _, ys ++ [.ref x2], rfl, upd_same, ?_, same_lst (sc.trans sc3) nF⟩
        rw [take_snoc ed]
        refine (hys.mono fun v l h => (h.same sc3).fz zz).snoc ?_
        exact BlockO.fz ⟨x2, dx2, x1, tp, us, rfl, hb, ⟨dx1, (sd.trans s3) _ _ hx1⟩, htp3, hus.mono fun v l h => h.same s3, di.toBI⟩ zz
    · obtain ⟨y2, y3, ys, rfl, hF, hys, sc⟩ := hP
      rw [lb, List.take_length] at hys
      have l9 := hys.length
      refine ⟨_, rfl, fun x dx nx ndx ne => ⟨x, dx, F, ys, rfl, upd_same, by omega, fun y hy => ?_, .inl ⟨same_two nx ndx _ _ hF, fun H2 tp d s2 htp => ⟨rfl, ?_⟩⟩⟩⟩
      · obtain ⟨l, _, hl⟩ := (hys.mono fun v l h => h.same (same_two nx ndx)).left hy
        exact hl.ins
      have hx2 : H2 x = some (.ins T.c_Plan dx []) := s2 _ _ upd_same
      have ntx : tp ≠ x := by
        rintro rfl
        rw [hx2] at htp
        cases htp
      have s3 : Same Hc (upd H2 x (.ins T.c_Plan dx (planF tp d))) := same_make nx ndx s2
      exact k _ _ (sc.trans s3) ⟨x, dx, tp, ys, d, rfl, upd_same, by rw [upd_ne ntx]; exact htp, hys.mono fun v l h => h.same s3⟩

end
end K09
namespace K09
open PySem PySem.Spec PyProof.Rows L2 Rs
local macro_rules | `(tactic| walk_at "om") => `(tactic| first | omega | (dsimp only; omega))
local macro_rules | `(tactic| walk_at "side") => `(tactic| first | omega | (dsimp only; omega) | decide | (unfold CMul; omega) | (unfold CDiv; omega) | (unfold CPow; omega) | exact wide_div (b := 64) (by omega) (by omega) (by decide) (by decide))
local macro_rules | `(tactic| walk_at "hp") => `(tactic| first | assumption | exact upd_same)
local macro_rules | `(tactic| walk_at "sq") => `(tactic| first | assumption | exact SqL.of (by assumption) | exact SqL.of upd_same)
local macro_rules | `(tactic| walk_at "st") => `(tactic| first
  | refine ⟨_, rfl, ?_⟩
  | (refine ⟨_, _, rfl, rfl, And.intro ?side ?_⟩; (case side => walk_at "side"))
  | refine ⟨_, _, rfl, rfl, ?_⟩
  | (refine' ⟨_, _, _, _, rfl, rfl, SqL.of ?hp, ?atx, ?_⟩; (case hp => walk_at "hp"); (case atx => exact rfl))
  | (refine' ⟨_, _, _, _, rfl, rfl, ?hp, ?atx, ?_⟩; (case hp => walk_at "hp"); (case atx => exact rfl))
  | (refine' ⟨_, _, rfl, Or.inl ?sq, ?_⟩; (case sq => walk_at "sq"))
  | refine Or.inl ⟨_, rfl, ?_⟩
  | refine Or.inr ⟨_, rfl, ?_⟩)
local macro_rules | `(tactic| walk_at "evd") => `(tactic| first
  | exact evd_int
  | exact evd_str
  | exact evd_non
  | exact evd_bl
  | exact evd_nil
  | (refine evd_cons ?_ (fun _ => ?_) <;> walk_at "evd")
  | (refine evd_tup ?_ (Nat.le_of_ble_eq_true rfl); walk_at "evd"))

section
variable {P : Program} {w : World} {K : PySem.W.Frag} {mg : Str → Option Value} {base : Heap}
/-- as PlanO, but the tuple may stand in the written part -/
def PlanT (K : PySem.W.Frag) (CP CB CL CF : Addr) (H : Hp) (v : V) (ds : List BD) : Prop := ∃ x dx tp bs d, v = .ref x ∧ H x = some (.ins CP dx (planF tp d)) ∧ SqT K H tp bs ∧ AllR (BlockO CB CL CF H) bs ds
theorem PlanO.t {CP CB CL CF : Addr} {H : Hp} {v : V} {ds : List BD} (h : PlanO CP CB CL CF H v ds) : PlanT K CP CB CL CF H v ds := by
  obtain ⟨x, dx, tp, bs, d, e, hx, ht, a⟩ := h
  exact ⟨x, dx, tp, bs, d, e, hx, SqT.of ht, a⟩
theorem PlanT.same {CP CB CL CF : Addr} {H H' : Hp} {v : V} {ds : List BD} (h : PlanT K CP CB CL CF H v ds) (s : Same H H') : PlanT K CP CB CL CF H' v ds := by
  obtain ⟨x, dx, tp, bs, d, e, hx, ht, a⟩ := h
  exact ⟨x, dx, tp, bs, d, e, s _ _ hx, Same.seqT s ht, a.mono fun v l h => h.same s⟩
theorem PlanO.same {CP CB CL CF : Addr} {H H' : Hp} {v : V} {ds : List BD} (h : PlanO CP CB CL CF H v ds) (s : Same H H') : PlanO CP CB CL CF H' v ds := h.fz (Fz.of_same s)

theorem lines_ne {d : BD} : blockLines d ≠ [] := by
  unfold blockLines
  simp

theorem BlockO.inj {CB CL CF : Addr} {H : Hp} {v : V} {d d' : BD} (h : BlockO CB CL CF H v d) (h' : BlockO CB CL CF H v d') : d = d' := by
  obtain ⟨x, dx, y, tp, us, rfl, hx, hy, ht, ha, _⟩ := h
  obtain ⟨x', dx', y', tp', us', e, hx', hy', ht', ha', _⟩ := h'
  cases e
  rw [hx] at hx'
  have e := Option.some.inj hx'
  injection e with _ _ e
  rw [fldB_eq, fldB_eq] at e
  simp only [List.cons.injEq, Prod.mk.injEq, V.ref.injEq, true_and, and_true] at e
  obtain ⟨e1, e2⟩ := e
  subst e1 e2
  obtain ⟨f1, f2, f3⟩ := hy.inj hy'
  rw [ht] at ht'
  have e := Option.some.inj ht'
  injection e with e
  subst e
  have f4 := AllR.fn (fun _ _ _ x y => x.inj y) ha ha'
  cases d
  cases d'
  simp only at f1 f2 f3 f4
  subst f1 f2 f3 f4
  rfl
def SB (CB CL CF : Addr) (a b : Addr) (r : Bool) (H : Hp) : Prop := ∃ l l', BlockO CB CL CF H (.ref a) l ∧ BlockO CB CL CF H (.ref b) l' ∧ r = decide (l = l')
theorem SB.mon {CB CL CF : Addr} (a b : Addr) (r : Bool) (H H' : Hp) (e : Ext H H') (h : SB CB CL CF a b r H) : SB CB CL CF a b r H' := by
  obtain ⟨l, l', h1, h2, h3⟩ := h
  exact ⟨l, l', h1.same e, h2.same e, h3⟩
theorem SB.ask {CB CL CF : Addr} (a b : Addr) (r : Bool) (H : Hp) (h : SB CB CL CF a b r H) : spBEq K CB CL CF [.ref a, .ref b] H (fun v H' => v = .bl r ∧ Ext H H') E0 := by
  obtain ⟨l, l', h1, h2, rfl⟩ := h
  exact ⟨_, _, l, rfl, h1, .inl ⟨l', h2, fun H' s => ⟨rfl, s⟩⟩⟩
theorem SB.tup {CB CL CF : Addr} {H : Hp} {p p' : Addr} {us us' : List V} {ls ls' : List BD} (h1 : SqT K H p us) (h2 : SqT K H p' us') (a1 : AllR (BlockO CB CL CF H) us ls) (a2 : AllR (BlockO CB CL CF H) us' ls') (own : p = p' → ls = ls') : DTupB K (DInsB CB (SB CB CL CF)) (.ref p) (.ref p') (decide (ls = ls')) H := by
  refine ⟨p, p', us, us', rfl, rfl, h1, h2, ⟨fun i => decide (ls[i]? = ls'[i]?), fun i x y ex ey => ?_, ?_⟩, fun e => decide_eq_true (own e)⟩
  · obtain ⟨l, el, hl⟩ := a1.get ex
    obtain ⟨l', el', hl'⟩ := a2.get ey
    obtain ⟨z, dz, gs, rfl, hz⟩ := hl.ins
    obtain ⟨z', dz', gs', rfl, hz'⟩ := hl'.ins
    refine ⟨z, z', dz, dz', gs, gs', rfl, rfl, hz, hz', ⟨l, l', hl, hl', ?_⟩, fun e => ?_⟩
    · simp only [el, el', Option.some.injEq]
    · subst e
      have e := hl.inj hl'
      simp only [el, el', e, decide_true]
  · rw [decide_eq_true_eq, a1.length, a2.length]
    constructor
    · intro e
      subst e
      exact ⟨rfl, fun i _ _ => by simp only [decide_true]⟩
    · rintro ⟨e, all⟩
      refine List.ext_getElem? fun i => ?_
      rcases Nat.lt_or_ge i ls.length with c | c
      · exact of_decide_eq_true (all i c (by omega))
      · rw [List.getElem?_eq_none c, List.getElem?_eq_none (by omega)]
def spPEq (K : PySem.W.Frag) (CP CB CL CF : Addr) : Sp := fun vs H Q _ => ∃ (u v : V), vs = [u, v] ∧
  ((∃ ds, PlanO CP CB CL CF H u ds ∧ ((∃ ds', PlanO CP CB CL CF H v ds' ∧ ∀ H', Same H H' → Q (.bl (decide (ds = ds'))) H') ∨ ∃ t, TyX K H v t ∧ PySem.W.kitOne K t (.ref CP) = some false ∧ Q (.bl false) H)) ∨
   (PlanT K CP CB CL CF H u [] ∧ PlanT K CP CB CL CF H v [] ∧ ∀ H', Same H H' → Q (.bl true) H'))
theorem ok_peq (T : Txt K mg) : FnOk P w K mg base CX0 7 T.a_Plan___eq__ T.d_Plan___eq__ ["self", "other"] (spPEq K T.c_Plan T.c_Block T.c_Lane T.c_Form) := by
  have R_beq : FnR P w K mg base CX0 5 T.a_Block___eq__ (spBEq K T.c_Block T.c_Lane T.c_Form) := fnR (ok_beq T) T.b_Block___eq__
  refine T.F_Plan___eq__.ok sc_Plan___eq__ (fun vs H Q E h => ?_) (fun cdv A outer s H vs Q E hr h => ?_)
  · obtain ⟨u, v, rfl, _⟩ := h
    rfl
  · obtain ⟨u, v, rfl, hv⟩ := h
    have nd := sc_Plan___eq__.nd
    refine ⟨_, (pss_one (ps_ret (pe_and (pe_callB call_isi (by rfl) T.z_isinstance (by decide +kernel) (pa_cons (pv 1) (pa_cons (pe_glob rfl T.m_Plan (rel_ref _)) pa_nil))) (pe_one (pe_cmpR (op_eqB (rcB_tup (monB_ins SB.mon) (RcB.eqB (rcB_ins T.O_Block R_beq pass0 SB.ask) refs)) (hr.mono (by decide))) (pe_fld (pv 0) rfl) (pe_fld (pv 1) rfl) (nomark _)))))), ?_⟩
    rcases hv with ⟨ds, ⟨x, dx, tp, bs, d, rfl, hx, ht, ab⟩, hv⟩ | ⟨⟨x, dx, tp, bs, d, rfl, hx, ht, ab⟩, ⟨x', dx', tp', bs', d', rfl, hx', ht', ab'⟩, k⟩
    · rcases hv with ⟨ds', ⟨x', dx', tp', bs', d', rfl, hx', ht', ab'⟩, k⟩ | ⟨t, ty, kt, k⟩
      · refine ⟨_, rfl, _, _, _, _, _, rfl, .own _, T.I_Plan.ty T.C_Plan hx', kit_self, _, rfl, ifT rfl ?_⟩
        refine ⟨_, rfl, x, _, dx, _, _, rfl, hx, T.C_Plan, T.n_Plan_blocks, rfl, _, rfl, x', _, dx', _, _, rfl, hx', T.C_Plan, T.n_Plan_blocks, rfl, decide (ds = ds'), SB.tup (SqT.of ht) (SqT.of ht') ab ab' (fun e => ?_), fun H' e => k H' e⟩
        subst e
        rw [ht] at ht'
        have e := Option.some.inj ht'
        injection e with e
        subst e
        exact AllR.fn (fun _ _ _ x y => x.inj y) ab ab'
      · exact ⟨_, rfl, _, _, _, _, _, rfl, .own _, ty, kt, _, rfl, ifF rfl k⟩
    · refine ⟨_, rfl, _, _, _, _, _, rfl, .own _, T.I_Plan.ty T.C_Plan hx', kit_self, _, rfl, ifT rfl ?_⟩
      exact ⟨_, rfl, x, _, dx, _, _, rfl, hx, T.C_Plan, T.n_Plan_blocks, rfl, _, rfl, x', _, dx', _, _, rfl, hx', T.C_Plan, T.n_Plan_blocks, rfl, decide (([] : List BD) = []), SB.tup ht ht' ab ab' (fun _ => rfl), fun H' e => k H' e⟩
/-! text of a plan -/
theorem joinS_append {y : Str} : ∀ {xs zs : List Str}, xs ≠ [] → zs ≠ [] → Str.join y (xs ++ zs) = Str.join y xs ++ y ++ Str.join y zs
  | [], _, h, _ => absurd rfl h
  | [x], [], _, h => absurd rfl h
  | [x], z :: zs, _, _ => rfl
  | x :: x2 :: xs, zs, _, h => by
    show x ++ y ++ Str.join y ((x2 :: xs) ++ zs) = (x ++ y ++ Str.join y (x2 :: xs)) ++ y ++ Str.join y zs
    rw [joinS_append (xs := x2 :: xs) (by simp) h]
    simp only [Str.append_assoc]
theorem plan_join : ∀ ds : List BD, Txt.join nl (ds.map blockText) = planText ds
  | [] => rfl
  | [d] => by
    rw [plan_one, TL.join_eq]
    rfl
  | d :: d2 :: ds => by
    have ih := plan_join (d2 :: ds)
    unfold planText at ih ⊢
    rw [TL.join_eq] at ih ⊢
    rw [TL.join_eq] at ih ⊢
    rw [List.flatMap_cons, joinS_append lines_ne (by rw [List.flatMap_cons]; exact fun e => lines_ne (List.append_eq_nil_iff.mp e).1), ← ih]
    show blockText d ++ nl ++ _ = _
    unfold blockText
    rw [TL.join_eq]
theorem blockText_len {d : BD} (i : BI d) : (blockText d).length ≤ 96700 := by
  have a := join_len (y := nl) (xs := blockLines d)
  have b := sum_le (fun x h => line_len i h)
  have c := lines_len i
  have e : nl.length = 1 := by decide
  rw [e] at a
  show (Txt.join nl (blockLines d)).length ≤ _
  omega
def spPStr (K : PySem.W.Frag) (CP CB CL CF : Addr) : Sp := fun vs H Q _ => ∃ (u : V) (ds : List BD), vs = [u] ∧ PlanT K CP CB CL CF H u ds ∧ ds.length ≤ 150 ∧ ∀ H', Same H H' → Q (.str (planText ds)) H'
theorem ok_pstr (T : Txt K mg) : FnOk P w K mg base CX0 11 T.a_Plan___str__ T.d_Plan___str__ ["self"] (spPStr K T.c_Plan T.c_Block T.c_Lane T.c_Form) := by
  have R_bstr : FnR P w K mg base CX0 8 T.a_Block___str__ (spBStr T.c_Block T.c_Lane T.c_Form) := fnR (ok_bstr T) T.b_Block___str__
  refine T.F_Plan___str__.ok sc_Plan___str__ (fun vs H Q E h => ?_) (fun cdv A outer s H vs Q E hr h => ?_)
  · obtain ⟨u, l, rfl, _⟩ := h
    rfl
  · obtain ⟨u, ds, rfl, ⟨x, dx, tp, bs, d, rfl, hx, ht, ab⟩, hl, k⟩ := h
    have nd := sc_Plan___str__.nd
    refine ⟨_, (pss_one (ps_ret (pe_join pe_str (pe_lc (own := [("block", 1)]) (g := (gName 1)) (by rfl) nd (pi_tup (pe_fld (pv 0) rfl)) (blkOk_by (N := ["self", "block"]) (sc := defScope s_Plan___str__) (own := [("block", 1)]) (by decide +kernel)) (fun _ _ _ _ _ => by exact (pg_name (i := 1) nd rfl (Or.inl rfl))) (fun _ _ _ _ _ => by exact pts_nil) (fun _ _ _ _ _ => by exact (pe_callTy (call_strO T.M_Block___str__ R_bstr (hr.mono (by decide)) pass0) (by rfl) T.z_str (by decide +kernel) (pa_cons (pv 1) pa_nil))))))), ?_⟩
    have lb := ab.length
    have bis : ∀ d ∈ ds, BI d := by
      intro d hd
      obtain ⟨i, e⟩ := List.getElem?_of_mem hd
      have hi := (List.getElem?_eq_some_iff.mp e).1
      obtain ⟨d', e', _, _, _, _, _, _, _, _, _, _, bi⟩ := ab.get (List.getElem?_eq_getElem (show i < bs.length by omega))
      rw [e] at e'
      cases e'
      exact bi
    refine ret_go ?_
    refine ⟨⟨_, rfl⟩, ?_⟩
    refine ⟨_, rfl, x, _, dx, _, _, rfl, hx, T.C_Plan, T.n_Plan_blocks, rfl, tp, rfl, ⟨bs, ht⟩, fun D hD => ?_⟩
    refine lc_tup (xs := bs) (fun i Hc => Hc D = some (.lst (((ds.map blockText).take i).map V.str)) ∧ Same H Hc) ⟨by rw [upd_same, List.take_zero]; rfl, same_new hD⟩ (fun i Hc _ hP => Same.seqT hP.2 ht) (fun i y Hc hy hP => ?_) (fun Hc hP => ?_)
    · obtain ⟨hDc, sc⟩ := hP
      obtain ⟨l, el, hl2⟩ := ab.get hy
      have hl2 := hl2.same sc
      obtain ⟨z, dz2, gs, rfl, hz2⟩ := hl2.ins
      have hn := (List.getElem?_eq_some_iff.mp hy).1
      refine ⟨rfl, _, rfl, z, dz2, gs, rfl, hz2, _, l, rfl, hl2, fun H3 s3 => ⟨_, rfl, ?_⟩⟩
      have eg : (ds.map blockText)[i]? = some (blockText l) := by
        rw [List.getElem?_map, el]
        rfl
      exact ⟨_, s3 _ _ hDc, szl (by rw [List.length_map, List.length_take, List.length_map]; omega), by rw [upd_same, take_snoc eg, List.map_append]; rfl, same_lst (sc.trans s3) hD⟩
    · obtain ⟨hDc, sc⟩ := hP
      rw [lb, show ds.length = (ds.map blockText).length by rw [List.length_map], List.take_length] at hDc
      have sm : ((ds.map blockText).map fun x => x.length).sum + (ds.map blockText).length * nl.length ≤ 16777216 := by
        have a := sum_le (m := 96700) (xs := ds.map blockText) (fun x hx => by
          obtain ⟨d, hd, rfl⟩ := List.mem_map.mp hx
          exact blockText_len (bis d hd))
        have c : nl.length = 1 := by decide
        rw [List.length_map] at a ⊢
        rw [c]
        omega
      refine ⟨nl, D, _, rfl, rfl, .inl (SqL.of hDc), sm, ?_⟩
      rw [plan_join]
      exact k _ sc

theorem lane_head {l : LD} (i : LI l) : (TL.tl (laneText l)).head? = some 117 ∨ (TL.tl (laneText l)).head? = some 100 := by
  have h := i.w
  unfold ways at h
  simp only [List.mem_cons, List.not_mem_nil, or_false] at h
  rw [lane_eq, TL.tl_append]
  have e1 : TL.tl (Str.ofString "up") = [117, 112] := by decide
  have e2 : TL.tl (Str.ofString "down") = [100, 111, 119, 110] := by decide
  rcases h with h | h
  · left
    rw [h, e1]
    rfl
  · right
    rw [h, e2]
    rfl
theorem rounds_head {d : BD} : (TL.tl (roundsText d)).head? = some 114 := by
  unfold roundsText
  have e1 : TL.tl (Str.ofString "rounds ") = [114, 111, 117, 110, 100, 115, 32] := by decide
  rw [TL.tl_append, e1]
  rfl
theorem lane_ne_rounds {l : LD} {d : BD} (i : LI l) : laneText l ≠ roundsText d := fun e => by
  have h := lane_head i
  rw [e, rounds_head] at h
  rcases h with h | h <;> cases h
/-- nothing, or rows that begin with a block's -/
def Rows (R : List Str) : Prop := R = [] ∨ ∃ d T, R = roundsText d :: T
theorem flat_rows : ∀ ds : List BD, Rows (ds.flatMap blockLines)
  | [] => .inl rfl
  | d :: ds => .inr ⟨d, d.ls.map laneText ++ ds.flatMap blockLines, by rw [List.flatMap_cons]; rfl⟩
theorem lanes_cut : ∀ {ls ls' : List LD} {R R' : List Str}, (∀ l ∈ ls, LI l) → (∀ l ∈ ls', LI l) → Rows R → Rows R' → ls.map laneText ++ R = ls'.map laneText ++ R' → ls = ls' ∧ R = R'
  | [], [], _, _, _, _, _, _, e => ⟨rfl, e⟩
  | [], l :: ls, R, R', _, h', r, _, e => by
    rcases r with r | ⟨d, T, r⟩
    · subst r; cases e
    · subst r
      injection e with e _
      exact absurd e.symm (lane_ne_rounds (h' l (List.mem_cons_self ..)))
  | l :: ls, [], R, R', h, _, _, r, e => by
    rcases r with r | ⟨d, T, r⟩
    · subst r; cases e
    · subst r
      injection e with e _
      exact absurd e (lane_ne_rounds (h l (List.mem_cons_self ..)))
  | l :: ls, l' :: ls', R, R', h, h', r, r', e => by
    rw [List.map_cons, List.map_cons] at e
    injection e with e1 e2
    obtain ⟨a, b⟩ := lanes_cut (fun z hz => h z (List.mem_cons_of_mem _ hz)) (fun z hz => h' z (List.mem_cons_of_mem _ hz)) r r' e2
    exact ⟨by rw [lane_inj (h l (List.mem_cons_self ..)) (h' l' (List.mem_cons_self ..)) e1, a], b⟩
theorem flat_inj : ∀ {ds ds' : List BD}, (∀ d ∈ ds, BI d) → (∀ d ∈ ds', BI d) → ds.flatMap blockLines = ds'.flatMap blockLines → ds = ds'
  | [], [], _, _, _ => rfl
  | [], d :: ds, _, _, e => by
    rw [List.flatMap_cons] at e
    cases e
  | d :: ds, [], _, _, e => by
    rw [List.flatMap_cons] at e
    cases e
  | d :: ds, d' :: ds', h, h', e => by
    rw [List.flatMap_cons, List.flatMap_cons] at e
    have i := h d (List.mem_cons_self ..)
    have i' := h' d' (List.mem_cons_self ..)
    injection e with e1 e2
    obtain ⟨a, b⟩ := lanes_cut i.li i'.li (flat_rows ds) (flat_rows ds') e2
    obtain ⟨f1, f2, f3⟩ := rounds_inj i i' e1
    have g := flat_inj (fun z hz => h z (List.mem_cons_of_mem _ hz)) (fun z hz => h' z (List.mem_cons_of_mem _ hz)) b
    cases d
    cases d'
    simp only at a f1 f2 f3
    subst a f1 f2 f3 g
    rfl
theorem flat_no_nl {ds : List BD} (h : ∀ d ∈ ds, BI d) : ∀ p ∈ ds.flatMap blockLines, 10 ∉ TL.tl p := fun p hp => by
  obtain ⟨d, hd, hp⟩ := List.mem_flatMap.mp hp
  exact line_no_nl (h d hd) p hp
theorem plan_split {ds : List BD} (h : ∀ d ∈ ds, BI d) (ne : ds ≠ []) : Txt.split (planText ds) nl = ds.flatMap blockLines := by
  refine TL.split_join (s := 10) (S := []) (by decide) (by decide +kernel) ?_ (flat_no_nl h)
  cases ds with
  | nil => exact absurd rfl ne
  | cons d ds =>
    rw [List.flatMap_cons]
    exact fun e => lines_ne (List.append_eq_nil_iff.mp e).1
theorem plan_empty {ds : List BD} (h : ∀ d ∈ ds, BI d) (ne : ds ≠ []) : planText ds ≠ planText [] := fun e => by
  have a := plan_split h ne
  rw [e] at a
  have z : Txt.split (planText []) nl = [Str.empty] := TL.split_join (parts := [Str.empty]) (s := 10) (S := []) (by decide) (by decide +kernel) (by simp) (fun p hp => by
    rw [List.mem_singleton] at hp
    subst hp
    decide)
  rw [z] at a
  cases ds with
  | nil => exact ne rfl
  | cons d ds =>
    have i := h d (List.mem_cons_self ..)
    have l := congrArg List.length a
    rw [List.flatMap_cons, List.length_append] at l
    unfold blockLines at l
    have := i.l0
    simp only [List.length_cons, List.length_map, List.length_nil] at l
    omega
theorem plan_inj {ds ds' : List BD} (h : ∀ d ∈ ds, BI d) (h' : ∀ d ∈ ds', BI d) (e : planText ds = planText ds') : ds = ds' := by
  by_cases n : ds = []
  · subst n
    by_cases n' : ds' = []
    · exact n'.symm
    · exact absurd e.symm (plan_empty h' n')
  · by_cases n' : ds' = []
    · subst n'
      exact absurd e (plan_empty h n)
    · have a := plan_split h n
      rw [e, plan_split h' n'] at a
      exact (flat_inj h' h a).symm

end
end K09
namespace K09
open PySem PySem.Spec PyProof.Rows L2 Rs
local macro_rules | `(tactic| walk_at "om") => `(tactic| first | omega | (dsimp only; omega))
local macro_rules | `(tactic| walk_at "side") => `(tactic| first | omega | (dsimp only; omega) | decide | (unfold CMul; omega) | (unfold CDiv; omega) | (unfold CPow; omega) | exact wide_div (b := 64) (by omega) (by omega) (by decide) (by decide))
local macro_rules | `(tactic| walk_at "hp") => `(tactic| first | assumption | exact upd_same)
local macro_rules | `(tactic| walk_at "sq") => `(tactic| first | assumption | exact SqL.of (by assumption) | exact SqL.of upd_same)
local macro_rules | `(tactic| walk_at "st") => `(tactic| first
  | refine ⟨_, rfl, ?_⟩
  | (refine ⟨_, _, rfl, rfl, And.intro ?side ?_⟩; (case side => walk_at "side"))
  | refine ⟨_, _, rfl, rfl, ?_⟩
  | (refine' ⟨_, _, _, _, rfl, rfl, SqL.of ?hp, ?atx, ?_⟩; (case hp => walk_at "hp"); (case atx => exact rfl))
  | (refine' ⟨_, _, _, _, rfl, rfl, ?hp, ?atx, ?_⟩; (case hp => walk_at "hp"); (case atx => exact rfl))
  | (refine' ⟨_, _, rfl, Or.inl ?sq, ?_⟩; (case sq => walk_at "sq"))
  | refine Or.inl ⟨_, rfl, ?_⟩
  | refine Or.inr ⟨_, rfl, ?_⟩)
local macro_rules | `(tactic| walk_at "evd") => `(tactic| first
  | exact evd_int
  | exact evd_str
  | exact evd_non
  | exact evd_bl
  | exact evd_nil
  | (refine evd_cons ?_ (fun _ => ?_) <;> walk_at "evd")
  | (refine evd_tup ?_ (Nat.le_of_ble_eq_true rfl); walk_at "evd"))

section
variable {P : Program} {w : World} {K : PySem.W.Frag} {mg : Str → Option Value} {base : Heap}
/-! drawn plans -/
def FormD (m : Int) (H : Hp) (v : V) : Prop := ∃ p t q c, v = .ref p ∧ H p = some (.tup [.int t, .int q, .int c]) ∧ -m ≤ t ∧ t ≤ m ∧ -m ≤ q ∧ q ≤ m ∧ 1 ≤ c ∧ c ≤ 3
def LaneD (H : Hp) (v : V) : Prop := ∃ l, LaneV H v l
/-- a drawn block; its list of lanes stands neither at b nor at D -/
def BlockD (m : Int) (b D : Addr) (H : Hp) (v : V) : Prop := ∃ p f L ls, v = .ref p ∧ H p = some (.tup [f, .ref L]) ∧ FormD m H f ∧ L ≠ b ∧ L ≠ D ∧ H L = some (.lst ls) ∧ 0 < ls.length ∧ ls.length ≤ 2 ∧ ∀ x ∈ ls, LaneD H x
theorem FormD.fz {m : Int} {H H' : Hp} {v : V} (h : FormD m H v) (k : Fz H H') : FormD m H' v := by
  obtain ⟨p, t, q, c, e, hp, r⟩ := h
  exact ⟨p, t, q, c, e, k _ _ trivial hp, r⟩
theorem FormD.up {H : Hp} {v : V} (h : FormD 8 H v) : FormD 9 H v := by
  obtain ⟨p, t, q, c, e, hp, r1, r2, r3, r4, r5, r6⟩ := h
  exact ⟨p, t, q, c, e, hp, by omega, by omega, by omega, by omega, r5, r6⟩
theorem LaneD.fz {H H' : Hp} {v : V} (h : LaneD H v) (k : Fz H H') : LaneD H' v := by
  obtain ⟨l, h⟩ := h
  exact ⟨l, h.fz k⟩
theorem BlockD.up {b D : Addr} {H : Hp} {v : V} (h : BlockD 8 b D H v) : BlockD 9 b D H v := by
  obtain ⟨p, f, L, ls, e, hp, h1, r⟩ := h
  exact ⟨p, f, L, ls, e, hp, h1.up, r⟩
theorem BlockD.same {m : Int} {b D : Addr} {H H' : Hp} {v : V} (h : BlockD m b D H v) (k : Same H H') : BlockD m b D H' v := by
  obtain ⟨p, f, L, ls, e, hp, h1, n1, n2, hL, l0, l1, q⟩ := h
  exact ⟨p, f, L, ls, e, k _ _ hp, h1.fz (Fz.of_same k), n1, n2, k _ _ hL, l0, l1, fun x hx => (q x hx).fz (Fz.of_same k)⟩
theorem BlockD.but {m : Int} {b D : Addr} {H H' : Hp} {v : V} (h : BlockD m b D H v) (B : Box H b) (k : But b H H') : BlockD m b D H' v := by
  obtain ⟨p, f, L, ls, e, hp, h1, n1, n2, hL, l0, l1, q⟩ := h
  have z := B.fz k
  exact ⟨p, f, L, ls, e, z _ _ trivial hp, h1.fz z, n1, n2, k _ _ n1 hL, l0, l1, fun x hx => (q x hx).fz z⟩
theorem BlockD.set {m : Int} {b D : Addr} {H : Hp} {v : V} {xs : List V} {o : HO} (h : BlockD m b D H v) (e0 : H D = some (.lst xs)) : BlockD m b D (upd H D o) v := by
  obtain ⟨p, f, L, ls, e, hp, h1, n1, n2, hL, l0, l1, q⟩ := h
  have z : Fz H (upd H D o) := Fz.lst e0
  exact ⟨p, f, L, ls, e, z _ _ trivial hp, h1.fz z, n1, n2, by rw [upd_ne n2]; exact hL, l0, l1, fun x hx => (q x hx).fz z⟩
theorem BlockD.weak {m : Int} {b D : Addr} {H : Hp} {v : V} (h : BlockD m b D H v) : BlockD m b b H v := by
  obtain ⟨p, f, L, ls, e, hp, h1, n1, n2, r⟩ := h
  exact ⟨p, f, L, ls, e, hp, h1, n1, n1, r⟩
/-- its list was there when D was not yet -/
theorem BlockD.past {m : Int} {b c D : Addr} {H : Hp} {v : V} (h : BlockD m b c H v) (n : H D = none) : BlockD m b D H v := by
  obtain ⟨p, f, L, ls, e, hp, h1, n1, n2, hL, r⟩ := h
  exact ⟨p, f, L, ls, e, hp, h1, n1, ne_of_none hL n, hL, r⟩
theorem all_some {α β : Type} {R : α → β → Prop} : ∀ {as : List α}, (∀ a ∈ as, ∃ b, R a b) → ∃ bs, AllR R as bs
  | [], _ => ⟨[], .nil⟩
  | a :: as, h => by
    obtain ⟨b, hb⟩ := h a (List.mem_cons_self ..)
    obtain ⟨bs, hbs⟩ := all_some fun z hz => h z (List.mem_cons_of_mem _ hz)
    exact ⟨b :: bs, .cons hb hbs⟩
theorem AllR.right {α β : Type} {R : α → β → Prop} {as : List α} {bs : List β} (h : AllR R as bs) : ∀ b ∈ bs, ∃ a, a ∈ as ∧ R a b := by
  induction h with
  | nil => intro b hb; cases hb
  | cons z _ ih =>
    intro b hb
    rcases List.mem_cons.mp hb with hb | hb
    · subst hb
      exact ⟨_, List.mem_cons_self .., z⟩
    · obtain ⟨a, ha, r⟩ := ih b hb
      exact ⟨a, List.mem_cons_of_mem _ ha, r⟩
theorem BlockD.v {b D : Addr} {H : Hp} {v : V} (h : BlockD 9 b D H v) : ∃ d, BlockV b H v d := by
  obtain ⟨p, f, L, ls, e, hp, ⟨pf, t, q, c, rfl, hpf, r1, r2, r3, r4, r5, r6⟩, n1, n2, hL, l0, l1, qs⟩ := h
  obtain ⟨ds, hds⟩ := all_some qs
  have ld := hds.length
  have lw : ∀ l ∈ ds, LW l := fun l hl => by
    obtain ⟨a, _, ha⟩ := hds.right l hl
    obtain ⟨_, _, _, _, _, i⟩ := ha
    exact i
  have fb : FB t q c := ⟨r1, r2, r3, r4, r5, r6⟩
  exact ⟨⟨t, q, c, ds⟩, p, pf, L, ls, e, hp, hpf, n1, hL, hds, ⟨⟨fb.r, by show 0 < ds.length; omega, by show ds.length ≤ 300; omega, fun l hl => (lw l hl).toLI⟩, fb, by show ds.length ≤ 2; omega, lw⟩⟩
theorem BlockV.d {b D : Addr} {H : Hp} {v : V} {d : BD} (h : BlockV b H v d) (n : Off D H v) : BlockD 9 b D H v := by
  obtain ⟨p, f, L, vs, rfl, hp, hf, ne, hL, a, i⟩ := h
  obtain ⟨p', f', L', e', hp', n⟩ := n
  cases e'
  rw [hp] at hp'
  have e2 := Option.some.inj hp'
  injection e2 with e2
  injection e2 with _ e2
  injection e2 with e2 _
  injection e2 with e2
  subst e2
  have la := a.length
  have l0 := i.l0
  have l1 := i.l2
  refine ⟨p, .ref f, L, vs, rfl, hp, ⟨f, _, _, _, rfl, hf, i.b.t1, i.b.t2, i.b.q1, i.b.q2, i.b.c1, i.b.c2⟩, ne, n, hL, by omega, by omega, fun x hx => ?_⟩
  obtain ⟨l, _, hl⟩ := a.left hx
  exact ⟨l, hl⟩
/-! what a display comes to -/
def EvS (ta : TA) (σ : L2.St) (H : Hp) (R : Hp → List V → Prop) : Prop := ∀ Q : List V → Hp → Prop, (∀ vs H', Same H H' → R H' vs → Q vs H') → ta σ H Q
section
variable {σ : L2.St} {H : Hp}
theorem evp_formD {a b c : TE} {t q k : Int} (ha : EvI a σ t) (hb : EvI b σ q) (hc : EvI c σ k) (h : -8 ≤ t ∧ t ≤ 8 ∧ -8 ≤ q ∧ q ≤ 8 ∧ 1 ≤ k ∧ k ≤ 3) : EvP (tTup (tCons a (tCons b (tCons c tNil)))) σ H (FormD 8) := fun Q g =>
  ha.go _ _ (hb.go _ _ (hc.go _ _ ⟨szL (Nat.le_of_ble_eq_true rfl), fun p np => g _ _ (same_new np) ⟨p, t, q, k, rfl, upd_same, h.1, h.2.1, h.2.2.1, h.2.2.2.1, h.2.2.2.2.1, h.2.2.2.2.2⟩⟩))
theorem evp_lane {te : TE} {x y z : Str} (hf : EvP te σ H (FormD 8)) (hx : x ∈ ways) (hy : y ∈ signs) (hz : z ∈ deeds) : EvP (tTup (tCons (tC (.str x)) (tCons (tC (.str y)) (tCons te (tCons (tC (.str z)) tNil))))) σ H LaneD := fun Q g =>
  hf _ fun f H1 s1 d => ⟨szL (Nat.le_of_ble_eq_true rfl), fun p np => g _ _ (s1.trans (same_new np)) (by
    obtain ⟨pf, t, q, c, rfl, hpf, r1, r2, r3, r4, r5, r6⟩ := d
    exact ⟨⟨x, y, t, q, c, z⟩, p, pf, rfl, upd_same, same_new np _ _ hpf, ⟨⟨hx, hy, hz, FormR.small (t := t) (q := q) (c := c) (by omega) (by omega) (by omega) (by omega) r5 r6⟩, short_form (t := t) (q := q) (c := c) (by omega) (by omega) (by omega) (by omega) r5 r6⟩⟩)⟩
theorem ev_asg {te : TE} {g : V → L2.St → Hp → (L2.St → Hp → Prop) → Prop} {rest : TS} {D : Ends} (h : te σ H (fun x H1 => g x σ H1 (fun σ2 H2 => rest D σ2 H2))) : tSeq (tAsg te g) rest D σ H := h
def LanesD (H : Hp) (vs : List V) : Prop := 0 < vs.length ∧ vs.length ≤ 2 ∧ ∀ x ∈ vs, LaneD H x
theorem evs_one {te : TE} (h : EvP te σ H LaneD) : EvS (tCons te tNil) σ H LanesD := fun Q q => h _ fun v H1 s d => q _ _ s ⟨by simp, by simp, fun x hx => by
  rw [List.mem_singleton] at hx
  subst hx
  exact d⟩
theorem evs_two {te tf : TE} (h : EvP te σ H LaneD) (h2 : ∀ H', EvP tf σ H' LaneD) : EvS (tCons te (tCons tf tNil)) σ H LanesD := fun Q q => h _ fun v H1 s d => h2 H1 _ fun u H2 s2 d2 => q _ _ (s.trans s2) ⟨by simp, by simp, fun x hx => by
  simp only [List.mem_cons, List.not_mem_nil, or_false] at hx
  rcases hx with rfl | rfl
  · exact d.fz (Fz.of_same s2)
  · exact d2⟩
/-- a block's display: its list is new -/
theorem evp_block {b : Addr} {o : HO} {te : TE} {ta : TA} (hb : H b = some o) (hf : EvP te σ H (FormD 8)) (hl : ∀ H', EvS ta σ H' LanesD) : EvP (tTup (tCons te (tCons (tLst ta) tNil))) σ H (fun H' v => ∀ D o, H D = some o → BlockD 8 b D H' v) := fun Q q =>
  hf _ fun f H1 s1 d1 => hl H1 _ fun vs H2 s2 d2 => ⟨szL (by have := d2.2.1; omega), fun l nl => ⟨szL (Nat.le_of_ble_eq_true rfl), fun p np => q _ _ (((s1.trans s2).trans (same_new nl)).trans (same_new np)) fun D o hD =>
    ⟨p, f, l, vs, rfl, upd_same, ((d1.fz (Fz.of_same s2)).fz (Fz.new nl)).fz (Fz.new np), ne_of_none' ((s1.trans s2) _ _ hb) nl, ne_of_none' ((s1.trans s2) _ _ hD) nl, same_new np _ _ upd_same, d2.1, by have := d2.2.1; omega, fun x hx => ((d2.2.2 x hx).fz (Fz.new nl)).fz (Fz.new np)⟩⟩⟩
end
def rListOf (K : PySem.W.Frag) : List V → Hp → VK → Prop := fun xs H Q => ∃ p ys, xs = [.ref p] ∧ (SqL K H p ys ∨ SqT K H p ys) ∧ ∀ l, H l = none → Q (.ref l) (upd H l (.lst ys))
theorem call_listK {X : Cx} {K : PySem.W.Frag} (e : X.K = K) : CallR X (.type "list") (rListOf K) := by
  subst e
  exact call_list_of
theorem cut_take (xs : List V) {n : Int} (h : 0 ≤ n) : cutV xs none (some n) = xs.take n.toNat := by
  obtain ⟨m, rfl⟩ : ∃ m : Nat, n = m := ⟨n.toNat, by omega⟩
  unfold cutV
  rw [HT.sIx_none, HT.sIx_nat, Nat.sub_zero, List.drop_zero, Int.toNat_natCast, ← List.take_eq_take_min]
theorem cut_mem {xs : List V} {lo hi : Option Int} {x : V} (h : x ∈ cutV xs lo hi) : x ∈ xs := List.mem_of_mem_drop (List.mem_of_mem_take h)
theorem call_isiK {X : Cx} {K : PySem.W.Frag} (e : X.K = K) : CallR X (.builtin "isinstance") (rIsi K) := by
  subst e
  exact call_isi

/-- a drawn plan's blocks, told by data -/
def PlanD (b : Addr) (H : Hp) (A : Addr) : Prop := A ≠ b ∧ ∃ xs, H A = some (.lst xs) ∧ 0 < xs.length ∧ xs.length ≤ 4 ∧ ∀ x ∈ xs, BlockD 9 b b H x
def spKnown : Sp := fun vs H Q _ => ∃ (b : Addr), vs = [.ref b] ∧ Box H b ∧ ∀ (A : Addr) (H' : Hp), A ≠ b → (∃ xs, H' A = some (.lst xs) ∧ xs.length = 2 ∧ ∀ x ∈ xs, BlockD 8 b b H' x) → Box H' b → But b H H' → Q (.ref A) H'
theorem ok_known (T : Txt K mg) : FnOk P w K mg base CX0 3 T.a__law_known_plan T.d__law_known_plan ["_law_box_here"] spKnown := by
  have G__law_pick : FnOk P w K mg base CX0 2 T.a__law_pick T.d__law_pick ["_law_box_here", "_law_some"] spPick := ok_pick T
  refine T.F__law_known_plan.ok sc__law_known_plan (fun vs H Q E h => ?_) (fun cdv A outer s H vs Q E hr h => ?_)
  · obtain ⟨b, rfl, _⟩ := h
    rfl
  · obtain ⟨b, rfl, hB, k⟩ := h
    have nd := sc__law_known_plan.nd
    refine ⟨_, (pss_cons (ps_set (i := 1) nd rfl (Or.inl rfl) (pe_lst (pa_cons (pe_tup (pa_cons (pe_tup (pa_cons pe_int (pa_cons (pe_op op_sub pe_int pe_int) (pa_cons pe_int pa_nil)))) (pa_cons (pe_lst (pa_cons (pe_tup (pa_cons pe_str (pa_cons pe_str (pa_cons (pe_tup (pa_cons pe_int (pa_cons pe_int (pa_cons pe_int pa_nil)))) (pa_cons pe_str pa_nil))))) pa_nil)) pa_nil))) (pa_cons (pe_tup (pa_cons (pe_tup (pa_cons pe_int (pa_cons (pe_op op_sub pe_int pe_int) (pa_cons pe_int pa_nil)))) (pa_cons (pe_lst (pa_cons (pe_tup (pa_cons pe_str (pa_cons pe_str (pa_cons (pe_tup (pa_cons pe_int (pa_cons pe_int (pa_cons pe_int pa_nil)))) (pa_cons pe_str pa_nil))))) pa_nil)) pa_nil))) pa_nil))))
    (pss_cons (ps_set (i := 2) nd rfl (Or.inl rfl) (pe_lst (pa_cons (pe_tup (pa_cons (pe_tup (pa_cons pe_int (pa_cons pe_int (pa_cons pe_int pa_nil)))) (pa_cons (pe_lst (pa_cons (pe_tup (pa_cons pe_str (pa_cons pe_str (pa_cons (pe_tup (pa_cons pe_int (pa_cons pe_int (pa_cons pe_int pa_nil)))) (pa_cons pe_str pa_nil))))) (pa_cons (pe_tup (pa_cons pe_str (pa_cons pe_str (pa_cons (pe_tup (pa_cons pe_int (pa_cons pe_int (pa_cons pe_int pa_nil)))) (pa_cons pe_str pa_nil))))) pa_nil))) pa_nil))) pa_nil)))
    (pss_cons (ps_expr (pe_bm PySem.F.plainAttrs_list PySem.F.slot_list_append PySem.F.type_list_append mt_append (pv 2) (pa_cons (pe_tup (pa_cons (pe_tup (pa_cons pe_int (pa_cons pe_int (pa_cons pe_int pa_nil)))) (pa_cons (pe_lst (pa_cons (pe_tup (pa_cons pe_str (pa_cons pe_str (pa_cons (pe_tup (pa_cons pe_int (pa_cons pe_int (pa_cons pe_int pa_nil)))) (pa_cons pe_str pa_nil))))) (pa_cons (pe_tup (pa_cons pe_str (pa_cons pe_str (pa_cons (pe_tup (pa_cons pe_int (pa_cons pe_int (pa_cons pe_int pa_nil)))) (pa_cons pe_str pa_nil))))) pa_nil))) pa_nil))) pa_nil)))
    (pss_cons (ps_set (i := 3) nd rfl (Or.inl rfl) (pe_lst (pa_cons (pe_tup (pa_cons (pe_tup (pa_cons pe_int (pa_cons (pe_op op_sub pe_int pe_int) (pa_cons pe_int pa_nil)))) (pa_cons (pe_lst (pa_cons (pe_tup (pa_cons pe_str (pa_cons pe_str (pa_cons (pe_tup (pa_cons pe_int (pa_cons pe_int (pa_cons pe_int pa_nil)))) (pa_cons pe_str pa_nil))))) pa_nil)) pa_nil))) (pa_cons (pe_tup (pa_cons (pe_tup (pa_cons pe_int (pa_cons (pe_op op_sub pe_int pe_int) (pa_cons pe_int pa_nil)))) (pa_cons (pe_lst (pa_cons (pe_tup (pa_cons pe_str (pa_cons pe_str (pa_cons (pe_tup (pa_cons pe_int (pa_cons (pe_op op_sub pe_int pe_int) (pa_cons pe_int pa_nil)))) (pa_cons pe_str pa_nil))))) pa_nil)) pa_nil))) pa_nil))))
    (pss_one (ps_ret (pe_call G__law_pick (hr.mono (by first | decide | omega)) (by rfl) T.m__law_pick T.k__law_pick T.b__law_pick .nil pass0 (pa_cons (pv 0) (pa_cons (pe_lst (pa_cons (pv 1) (pa_cons (pv 2) (pa_cons (pv 3) pa_nil)))) pa_nil))))))))), ?_⟩
    obtain ⟨bx, hbx⟩ : ∃ o, H b = some o := by
      obtain ⟨x, y, z, h, _⟩ := hB
      exact ⟨_, h⟩
    have fI := @evi_c
    refine ev_asg (ev_lst ?_)
    refine ev_cons (evp_block hbx (evp_formD evi_c evi_m evi_c (by decide)) fun _ => evs_one (evp_lane (evp_formD evi_c evi_c evi_c (by decide)) (by decide) (by decide) (by decide))) fun v1 H1 s1 d1 => ?_
    refine ev_cons (evp_block (s1 _ _ hbx) (evp_formD evi_c evi_m evi_c (by decide)) fun _ => evs_one (evp_lane (evp_formD evi_c evi_c evi_c (by decide)) (by decide) (by decide) (by decide))) fun v2 H2 s2 d2 => ?_
    refine ⟨szL (Nat.le_of_ble_eq_true rfl), fun l1 n1 => ?_⟩
    have s3 := (s1.trans s2).trans (same_new (o := .lst [v1, v2]) n1)
    have e1 : upd H2 l1 (.lst [v1, v2]) l1 = some (.lst [v1, v2]) := upd_same
    have b1 := ((d1 _ _ hbx).same s2).same (same_new (o := .lst [v1, v2]) n1)
    have b2 := (d2 _ _ (s1 _ _ hbx)).same (same_new (o := .lst [v1, v2]) n1)
    generalize upd H2 l1 (.lst [v1, v2]) = H3 at s3 e1 b1 b2
    refine ev_asg (ev_lst ?_)
    refine ev_cons (evp_block (s3 _ _ hbx) (evp_formD evi_c evi_c evi_c (by decide)) fun _ => evs_two (evp_lane (evp_formD evi_c evi_c evi_c (by decide)) (by decide) (by decide) (by decide)) fun _ => evp_lane (evp_formD evi_c evi_c evi_c (by decide)) (by decide) (by decide) (by decide)) fun v3 H4 s4 d3 => ?_
    refine ⟨szL (Nat.le_of_ble_eq_true rfl), fun l2 n2 => ?_⟩
    have b3 := ((d3 _ _ (s3 _ _ hbx)).past n2).same (same_new (o := .lst [v3]) n2)
    have s5 := (s3.trans s4).trans (same_new (o := .lst [v3]) n2)
    have s5' := s4.trans (same_new (o := .lst [v3]) n2)
    have e2 : upd H4 l2 (.lst [v3]) l2 = some (.lst [v3]) := upd_same
    have n2' : H l2 = none := (s3.trans s4).free n2
    have e10 := s4 _ _ e1
    have s45 : Same H4 (upd H4 l2 (.lst [v3])) := same_new n2
    generalize upd H4 l2 (.lst [v3]) = H5 at s5 s5' s45 e2 b3
    have e1 := s5' _ _ e1
    have l12 : l1 ≠ l2 := ne_of_none e10 n2
    have b1 := ((b1.same s4).past n2).same s45
    have b2 := ((b2.same s4).past n2).same s45
    refine ⟨_, rfl, .inl ⟨rfl, _, SqL.of e2⟩, ?_⟩
    refine ev_cons (evp_block (s5 _ _ hbx) (evp_formD evi_c evi_c evi_c (by decide)) fun _ => evs_two (evp_lane (evp_formD evi_c evi_c evi_c (by decide)) (by decide) (by decide) (by decide)) fun _ => evp_lane (evp_formD evi_c evi_c evi_c (by decide)) (by decide) (by decide) (by decide)) fun v4 H6 s6 d4 => ?_
    refine ⟨l2, _, _, rfl, rfl, s6 _ _ e2, by simp [sizeLine_eq], ?_⟩
    have e2' := s6 _ _ e2
    have b3 := (b3.same s6).set (o := .lst ([v3] ++ [v4])) e2'
    have b4 := (d4 _ _ e2).set (o := .lst ([v3] ++ [v4])) e2'
    have b1 := (b1.same s6).set (o := .lst ([v3] ++ [v4])) e2'
    have b2 := (b2.same s6).set (o := .lst ([v3] ++ [v4])) e2'
    have B6 := hB.same (s5.trans s6)
    have nb2 : l2 ≠ b := hB.ne_none n2'
    have B7 := box_ne (o := .lst ([v3] ++ [v4])) B6 nb2
    have k7 : But b H (upd H6 l2 (.lst ([v3] ++ [v4]))) := but_new (But.of_same (s5.trans s6)) n2'
    have e1 : upd H6 l2 (.lst ([v3] ++ [v4])) l1 = some (.lst [v1, v2]) := by
      rw [upd_ne l12]
      exact s6 _ _ e1
    have e2 : upd H6 l2 (.lst ([v3] ++ [v4])) l2 = some (.lst [v3, v4]) := upd_same
    generalize upd H6 l2 (.lst ([v3] ++ [v4])) = H7 at b1 b2 b3 b4 B7 k7 e1 e2
    obtain ⟨bx7, hbx7⟩ : ∃ o, H7 b = some o := by
      obtain ⟨x, y, z, h, _⟩ := B7
      exact ⟨_, h⟩
    dsimp only
    refine ev_asg (ev_lst ?_)
    refine ev_cons (evp_block hbx7 (evp_formD evi_c evi_m evi_c (by decide)) fun _ => evs_one (evp_lane (evp_formD evi_c evi_c evi_c (by decide)) (by decide) (by decide) (by decide))) fun v5 H8 s8 d5 => ?_
    refine ev_cons (evp_block (s8 _ _ hbx7) (evp_formD evi_c evi_m evi_c (by decide)) fun _ => evs_one (evp_lane (evp_formD evi_c evi_m evi_c (by decide)) (by decide) (by decide) (by decide))) fun v6 H9 s9 d6 => ?_
    refine ⟨szL (Nat.le_of_ble_eq_true rfl), fun l3 n3 => ?_⟩
    have s10 := (s8.trans s9).trans (same_new (o := .lst [v5, v6]) n3)
    have e3 : upd H9 l3 (.lst [v5, v6]) l3 = some (.lst [v5, v6]) := upd_same
    have b5 := ((d5 _ _ hbx7).same s9).same (same_new (o := .lst [v5, v6]) n3)
    have b6 := (d6 _ _ (s8 _ _ hbx7)).same (same_new (o := .lst [v5, v6]) n3)
    have n3' : H7 l3 = none := (s8.trans s9).free n3
    generalize upd H9 l3 (.lst [v5, v6]) = H10 at s10 e3 b5 b6
    have B10 := B7.same s10
    refine ⟨_, rfl, _, rfl, _, rfl, _, rfl, szL (Nat.le_of_ble_eq_true rfl), fun l4 n4 => ?_⟩
    refine ⟨b, l4, _, rfl, B10.same (same_new n4), B10.ne_none n4, upd_same, by simp, by simp, fun v H11 hv B11 k11 => ?_⟩
    have k1011 : But b H10 H11 := (But.of_same (same_new n4)).trans k11
    have k711 := (But.of_same (b := b) s10).trans k1011
    have kk := k7.trans k711
    have nb1 : l1 ≠ b := fun e => by
      obtain ⟨x, y, z, h, _⟩ := B7
      rw [e, h] at e1
      have : boxL x y z = [v1, v2] := by injection e1 with e1; injection e1
      cases this
    have nb3 : l3 ≠ b := B7.ne_none n3'
    simp only [List.mem_cons, List.not_mem_nil, or_false] at hv
    rcases hv with rfl | rfl | rfl
    · exact k _ _ nb1 ⟨_, k711 _ _ nb1 e1, rfl, fun x hx => by
        simp only [List.mem_cons, List.not_mem_nil, or_false] at hx
        rcases hx with rfl | rfl
        · exact b1.weak.but B7 k711
        · exact b2.weak.but B7 k711⟩ B11 kk
    · exact k _ _ nb2 ⟨_, k711 _ _ nb2 e2, rfl, fun x hx => by
        simp only [List.mem_cons, List.not_mem_nil, or_false] at hx
        rcases hx with rfl | rfl
        · exact b3.weak.but B7 k711
        · exact b4.weak.but B7 k711⟩ B11 kk
    · exact k _ _ nb3 ⟨_, k1011 _ _ nb3 e3, rfl, fun x hx => by
        simp only [List.mem_cons, List.not_mem_nil, or_false] at hx
        rcases hx with rfl | rfl
        · exact b5.weak.but B10 k1011
        · exact b6.weak.but B10 k1011⟩ B11 kk

end
end K09
namespace K09
open PySem PySem.Spec PyProof.Rows L2 Rs
local macro_rules | `(tactic| walk_at "om") => `(tactic| first | omega | (dsimp only; omega))
local macro_rules | `(tactic| walk_at "side") => `(tactic| first | omega | (dsimp only; omega) | decide | (unfold CMul; omega) | (unfold CDiv; omega) | (unfold CPow; omega) | exact wide_div (b := 64) (by omega) (by omega) (by decide) (by decide))
local macro_rules | `(tactic| walk_at "hp") => `(tactic| first | assumption | exact upd_same)
local macro_rules | `(tactic| walk_at "sq") => `(tactic| first | assumption | exact SqL.of (by assumption) | exact SqL.of upd_same)
local macro_rules | `(tactic| walk_at "st") => `(tactic| first
  | refine ⟨_, rfl, ?_⟩
  | (refine ⟨_, _, rfl, rfl, And.intro ?side ?_⟩; (case side => walk_at "side"))
  | refine ⟨_, _, rfl, rfl, ?_⟩
  | (refine' ⟨_, _, _, _, rfl, rfl, SqL.of ?hp, ?atx, ?_⟩; (case hp => walk_at "hp"); (case atx => exact rfl))
  | (refine' ⟨_, _, _, _, rfl, rfl, ?hp, ?atx, ?_⟩; (case hp => walk_at "hp"); (case atx => exact rfl))
  | (refine' ⟨_, _, rfl, Or.inl ?sq, ?_⟩; (case sq => walk_at "sq"))
  | refine Or.inl ⟨_, rfl, ?_⟩
  | refine Or.inr ⟨_, rfl, ?_⟩)
local macro_rules | `(tactic| walk_at "evd") => `(tactic| first
  | exact evd_int
  | exact evd_str
  | exact evd_non
  | exact evd_bl
  | exact evd_nil
  | (refine evd_cons ?_ (fun _ => ?_) <;> walk_at "evd")
  | (refine evd_tup ?_ (Nat.le_of_ble_eq_true rfl); walk_at "evd"))

section
variable {P : Program} {w : World} {K : PySem.W.Frag} {mg : Str → Option Value} {base : Heap}
def spPlan : Sp := fun vs H Q _ => ∃ (b : Addr) (blocks lanes far : Int), vs = [.ref b, .int blocks, .int lanes, .int far] ∧ Box H b ∧ 0 < blocks ∧ blocks ≤ 4 ∧ 0 < lanes ∧ lanes ≤ 2 ∧ 2 ≤ far ∧ far ≤ 9 ∧ ∀ (A : Addr) (H' : Hp), PlanD b H' A → Box H' b → But b H H' → Q (.ref A) H'
theorem ok_plan (T : Txt K mg) : FnOk P w K mg base CX0 6 T.a__law_plan T.d__law_plan ["_law_box_here", "_law_blocks", "_law_lanes", "_law_far"] spPlan := by
  have G__law_take : FnOk P w K mg base CX0 1 T.a__law_take T.d__law_take ["_law_box_here", "_law_many"] spTake := ok_take T
  have G__law_pick : FnOk P w K mg base CX0 2 T.a__law_pick T.d__law_pick ["_law_box_here", "_law_some"] spPick := ok_pick T
  have G__law_form : FnOk P w K mg base CX0 3 T.a__law_form T.d__law_form ["_law_box_here", "_law_far"] spForm := ok_form T
  have G__law_lane : FnOk P w K mg base CX0 4 T.a__law_lane T.d__law_lane ["_law_box_here", "_law_far"] spLane := ok_lane T
  have G__law_block : FnOk P w K mg base CX0 5 T.a__law_block T.d__law_block ["_law_box_here", "_law_lanes", "_law_far"] spBlock := ok_block T
  have G__law_known_plan : FnOk P w K mg base CX0 3 T.a__law_known_plan T.d__law_known_plan ["_law_box_here"] spKnown := ok_known T
  refine T.F__law_plan.ok sc__law_plan (fun vs H Q E h => ?_) (fun cdv A outer s H vs Q E hr h => ?_)
  · obtain ⟨b, blocks, lanes, far, rfl, _⟩ := h
    rfl
  · obtain ⟨b, blocks, lanes, far, rfl, hB, b0, b1, m0, m1, f0, f1, k⟩ := h
    have nd := sc__law_plan.nd
    refine ⟨_, (pss_cons (ps_if (pt_cmpR op_gt (pe_call G__law_take (hr.mono (by first | decide | omega)) (by rfl) T.m__law_take T.k__law_take T.b__law_take .nil pass0 (pa_cons (pv 0) (pa_cons pe_int pa_nil))) pe_int (nomark _)) (pss_cons (ps_setLc (i := 4) (own := [("_law_rounds", 5), ("_law_some", 6)]) (g := (gTup K 2 (gCons (gName 5) (gCons (gName 6) gNil)))) (by rfl) nd rfl rfl (sw_true rfl rfl rfl (by decide +kernel)) (pi_list (pe_call G__law_known_plan (hr.mono (by first | decide | omega)) (by rfl) T.m__law_known_plan T.k__law_known_plan T.b__law_known_plan .nil pass0 (pa_cons (pv 0) pa_nil))) (blkOk_by (N := ["_law_box_here", "_law_blocks", "_law_lanes", "_law_far", "_law_found", "_law_rounds", "_law_some", "_law_at", "_law_form_here", "_law_times", "_law_plus", "_law_by", "_law_turn"]) (sc := defScope s__law_plan) (own := [("_law_rounds", 5), ("_law_some", 6)]) (by decide +kernel)) (fun _ _ _ _ _ => by exact (pg_tup rfl (pgs_cons (pg_name (i := 5) nd rfl (Or.inl rfl)) (pgs_cons (pg_name (i := 6) nd rfl (Or.inl rfl)) pgs_nil)))) (fun _ _ _ _ _ => by exact pts_nil) (fun _ _ _ _ _ => by exact (pe_tup (pa_cons (pv 5) (pa_cons (pe_callTy (call_listK (K := K) rfl) (by rfl) T.z_list (by decide +kernel) (pa_cons (pv 6) pa_nil)) pa_nil)))))
    (pss_cons (ps_set (i := 7) nd rfl (Or.inl rfl) (pe_call G__law_take (hr.mono (by first | decide | omega)) (by rfl) T.m__law_take T.k__law_take T.b__law_take .nil pass0 (pa_cons (pv 0) (pa_cons (pe_callB call_len_seq (by rfl) T.z_len (by decide +kernel) (pa_cons (pv 4) pa_nil)) pa_nil))))
    (pss_cons (ps_set (i := 8) nd rfl (Or.inl rfl) (pe_call G__law_take (hr.mono (by first | decide | omega)) (by rfl) T.m__law_take T.k__law_take T.b__law_take .nil pass0 (pa_cons (pv 0) (pa_cons pe_int pa_nil))))
    (pss_cons (ps_if (pt_cmpR op_eq (pv 8) pe_int (nomark _)) (pss_cons (ps_asg (pe_ix ix_tup (pe_ix ix_list (pv 4) (pv 7) (fun _ _ => rfl)) pe_int (fun _ _ => rfl)) (pg_tup rfl (pgs_cons (pg_name (i := 9) nd rfl (Or.inl rfl)) (pgs_cons (pg_name (i := 10) nd rfl (Or.inl rfl)) (pgs_cons (pg_name (i := 11) nd rfl (Or.inl rfl)) pgs_nil)))))
    (pss_one (ps_asg (pe_tup (pa_cons (pe_tup (pa_cons (pv 9) (pa_cons (pe_op op_add (pv 10) (pe_call G__law_pick (hr.mono (by first | decide | omega)) (by rfl) T.m__law_pick T.k__law_pick T.b__law_pick .nil pass0 (pa_cons (pv 0) (pa_cons (pe_lst (pa_cons pe_int (pa_cons (pe_op op_sub pe_int pe_int) pa_nil))) pa_nil)))) (pa_cons (pv 11) pa_nil)))) (pa_cons (pe_ix ix_tup (pe_ix ix_list (pv 4) (pv 7) (fun _ _ => rfl)) pe_int (fun _ _ => rfl)) pa_nil))) (pg_sub (pv 4) (pv 7) set_list)))) (pss_one (ps_if (pt_cmpR op_eq (pv 8) pe_int (nomark _)) (pss_one (ps_asg (pe_tup (pa_cons (pe_ix ix_tup (pe_ix ix_list (pv 4) (pv 7) (fun _ _ => rfl)) pe_int (fun _ _ => rfl)) (pa_cons (pe_op op_cat (pe_slice sl_list (pe_ix ix_tup (pe_ix ix_list (pv 4) (pv 7) (fun _ _ => rfl)) pe_int (fun _ _ => rfl)) po_none (po_some (pe_op op_sub (pv 2) pe_int))) (pe_lst (pa_cons (pe_call G__law_lane (hr.mono (by first | decide | omega)) (by rfl) T.m__law_lane T.k__law_lane T.b__law_lane .nil pass0 (pa_cons (pv 0) (pa_cons (pv 3) pa_nil))) pa_nil))) pa_nil))) (pg_sub (pv 4) (pv 7) set_list))) (pss_one (ps_if (pt_cmpR op_eq (pv 8) pe_int (nomark _)) (pss_one (ps_set (i := 4) nd rfl (Or.inl rfl) (pe_op op_cat (pe_op op_cat (pe_slice sl_list (pv 4) po_none (po_some (pv 7))) (pe_lst (pa_cons (pe_call G__law_block (hr.mono (by first | decide | omega)) (by rfl) T.m__law_block T.k__law_block T.b__law_block .nil pass0 (pa_cons (pv 0) (pa_cons pe_int (pa_cons (pv 3) pa_nil)))) pa_nil))) (pe_slice sl_list (pv 4) (po_some (pv 7)) po_none)))) pss_nil)))))
    (pss_one (ps_ret (pe_slice sl_list (pv 4) po_none (po_some (pv 1))))))))) pss_nil)
    (pss_one (ps_ret (pe_lc (own := [("_law_turn", 12)]) (g := (gName 12)) (by rfl) nd (pi_range1 (by rfl) T.z_range (pa_cons (pe_op op_add pe_int (pe_call G__law_take (hr.mono (by first | decide | omega)) (by rfl) T.m__law_take T.k__law_take T.b__law_take .nil pass0 (pa_cons (pv 0) (pa_cons (pv 1) pa_nil)))) pa_nil)) (blkOk_by (N := ["_law_box_here", "_law_blocks", "_law_lanes", "_law_far", "_law_found", "_law_rounds", "_law_some", "_law_at", "_law_form_here", "_law_times", "_law_plus", "_law_by", "_law_turn"]) (sc := defScope s__law_plan) (own := [("_law_turn", 12)]) (by decide +kernel)) (fun _ _ _ _ _ => by exact (pg_name (i := 12) nd rfl (Or.inl rfl))) (fun _ _ _ _ _ => by exact pts_nil) (fun _ _ _ _ _ => by exact (pe_call G__law_block (hr.mono (by first | decide | omega)) (by rfl) T.m__law_block T.k__law_block T.b__law_block .nil pass0 (pa_cons (pv 0) (pa_cons (pv 2) (pa_cons (pv 3) pa_nil))))))))), ?_⟩
    refine ⟨_, rfl, b, 3, rfl, hB, by decide, by decide, fun r H1 r0 r1 B1 k1 => ?_⟩
    refine ⟨_, _, rfl, rfl, _, rfl, ifB (fun e => ?_) (fun e => ?_)⟩
    · refine ⟨_, rfl, b, rfl, B1, fun A0 H2 neA hA2 B2 k2 => ?_⟩
      obtain ⟨xs, hA, lA, hxs⟩ := hA2
      refine ⟨A0, rfl, ⟨_, SqL.of hA⟩, fun D hD => ?_⟩
      have neD := B2.ne_none hD
      have neAD : A0 ≠ D := ne_of_none hA hD
      refine lc_list (xs := xs) (fun i Hc => ∃ ys, Hc D = some (.lst ys) ∧ ys.length = i ∧ (∀ y ∈ ys, BlockD 8 b D Hc y) ∧ Same H2 Hc) ⟨[], upd_same, rfl, (fun x h => nomatch h), same_new hD⟩ (fun i Hc _ hP => ?_) (fun i x Hc hx hP => ?_) (fun Hc hP => ?_)
      · obtain ⟨ys, _, _, _, sc⟩ := hP
        exact SqL.of (sc _ _ hA)
      · obtain ⟨ys, hDc, hl, hys, sc⟩ := hP
        obtain ⟨p, f, L, ls, rfl, hp, hf, n1, n2, hL, l0, l1, q⟩ := (hxs x (List.mem_of_getElem? hx)).same sc
        refine ⟨p, _, rfl, SqT.of hp, rfl, _, _, rfl, _, _, rfl, rfl, rfl, ?_⟩
        refine ⟨_, rfl, _, rfl, L, _, rfl, .inl (SqL.of hL), fun L' nL' => ?_⟩
        refine ⟨szL (Nat.le_of_ble_eq_true rfl), fun p' np' => ?_⟩
        have s1 := (same_new (H := Hc) (o := .lst ls) nL').trans (same_new (o := .tup [f, .ref L']) np')
        have hD' := s1 _ _ hDc
        refine ⟨ys, hD', szl (by have := (List.getElem?_eq_some_iff.mp hx).1; omega), ys ++ [.ref p'], upd_same, by rw [List.length_append, hl]; rfl, fun y hy => ?_, same_lst (sc.trans s1) hD⟩
        rcases List.mem_append.mp hy with h | h
        · exact ((hys y h).same s1).set hD'
        · rw [List.mem_singleton] at h
          subst h
          have zz : Fz (upd (upd Hc L' (.lst ls)) p' (.tup [f, .ref L'])) (upd (upd (upd Hc L' (.lst ls)) p' (.tup [f, .ref L'])) D (.lst (ys ++ [.ref p']))) := Fz.lst hD'
          have z1 : Fz Hc (upd (upd Hc L' (.lst ls)) p' (.tup [f, .ref L'])) := Fz.of_same s1
          have Bc := B2.same sc
          have neL'D : L' ≠ D := ne_of_none' hDc nL'
          exact ⟨p', f, L', ls, rfl, zz _ _ trivial upd_same, (hf.fz z1).fz zz, Bc.ne_none nL', neL'D, by rw [upd_ne neL'D]; exact same_new np' _ _ upd_same, l0, l1, fun z hz => ((q z hz).fz z1).fz zz⟩
      · obtain ⟨ys, hDc, hl, hys, sc⟩ := hP
        have Bc := B2.same sc
        have kc : But b H Hc := (k1.trans k2).trans (But.of_same sc)
        rw [lA] at hl
        refine ⟨_, rfl, _, rfl, D, _, rfl, .inl (SqL.of hDc), b, _, rfl, Bc, by omega, by omega, fun at' H3 a0 a1 B3 k3 => ?_⟩
        rw [hl] at a1
        refine ⟨_, rfl, b, 4, rfl, B3, by decide, by decide, fun fh H4 fh0 fh1 B4 k4 => ?_⟩
        have k34 := k3.trans k4
        have hD4 : H4 D = some (.lst ys) := k34 _ _ neD hDc
        have hys4 : ∀ y ∈ ys, BlockD 8 b D H4 y := fun y hy => (hys y hy).but Bc k34
        obtain ⟨y0, hy0, hat⟩ : ∃ y, y ∈ ys ∧ atI ys at' = some y := mem_at a0 (by rw [hl]; exact a1)
        have ix : ixN ys.length at' = some at'.toNat := by
          rw [hl]
          unfold ixN
          rw [if_pos a0, if_pos (by omega)]
        have fin : ∀ (D' : Addr) (zs : List V) (H' : Hp) (σ : L2.St), H' D' = some (.lst zs) → 0 < zs.length → zs.length ≤ 100 → (∀ z ∈ zs, BlockD 9 b b H' z) → Box H' b → But b H H' →
            ∀ p, H' p = none → Q (.ref p) (upd H' p (.lst (zs.take blocks.toNat))) := fun D' zs H' σ hz z0 z1 zb Bz kz p np =>
          k p _ ⟨Bz.ne_none np, zs.take blocks.toNat, upd_same, by rw [List.length_take]; omega, by rw [List.length_take]; omega, fun x hx => (zb x (List.mem_of_mem_take hx)).same (same_new np)⟩ (Bz.same (same_new np)) (kz.trans (But.of_same (same_new np)))
        have tail : ∀ (D' : Addr) (zs : List V) (H' : Hp), H' D' = some (.lst zs) → 0 < zs.length → zs.length ≤ 100 → (∀ z ∈ zs, BlockD 9 b b H' z) → Box H' b → But b H H' →
            ∀ p, H' p = none → Q (.ref p) (upd H' p (.lst (cutV zs none (some blocks)))) := fun D' zs H' hz z0 z1 zb Bz kz p np => by
          rw [cut_take zs (by omega)]
          exact fin D' zs H' [] hz z0 z1 zb Bz kz p np
        obtain ⟨p, f, L, ls, ey, hp, hf, n1, n2, hL, l0, l1, q⟩ := hys4 y0 hy0
        subst ey
        have kk4 := (kc.trans k34)
        have nD0 : H D = none := by
          cases e0 : H D with
          | none => rfl
          | some o =>
            have := (k1.trans k2) D o neD e0
            rw [hD] at this
            cases this
        refine ⟨_, rfl, rfl, _, rfl, ifB (fun e1 => ?_) (fun e1 => ?_)⟩
        · refine ⟨_, rfl, _, rfl, _, _, _, _, rfl, rfl, SqL.of hD4, hat, _, _, _, _, rfl, rfl, SqT.of hp, rfl, ?_⟩
          obtain ⟨pf, t, qq, c, rfl, hpf, t0, t1, q0, q1, c0, c1⟩ := hf
          refine ⟨pf, _, rfl, SqT.of hpf, rfl, _, _, rfl, _, _, rfl, _, _, rfl, rfl, ?_⟩
          refine ⟨_, rfl, _, rfl, _, rfl, _, _, rfl, rfl, szL (Nat.le_of_ble_eq_true rfl), fun L5 n5 => ?_⟩
          refine ⟨b, L5, _, rfl, B4.same (same_new n5), B4.ne_none n5, upd_same, by simp, by simp, fun v H5 hv B5 k5 => ?_⟩
          obtain ⟨u, rfl, u0, u1⟩ : ∃ u, v = .int u ∧ -1 ≤ u ∧ u ≤ 1 := by
            simp only [List.mem_cons, List.not_mem_nil, or_false] at hv
            rcases hv with h | h <;> exact ⟨_, h, by decide, by decide⟩
          refine ⟨_, _, rfl, rfl, _, rfl, szL (Nat.le_of_ble_eq_true rfl), fun r1 nr1 => ?_⟩
          have k46 : But b H4 (upd H5 r1 (.tup [.int t, .int (qq + u), .int c])) := ((But.of_same (same_new n5)).trans k5).trans (But.of_same (same_new nr1))
          have e6 : upd H5 r1 (.tup [.int t, .int (qq + u), .int c]) r1 = some (.tup [.int t, .int (qq + u), .int c]) := upd_same
          have B6 := B5.same (same_new (o := .tup [.int t, .int (qq + u), .int c]) nr1)
          generalize upd H5 r1 (.tup [.int t, .int (qq + u), .int c]) = H6 at k46 e6 B6
          have hD6 := k46 _ _ neD hD4
          have hp6 := (B4.fz k46) _ (.tup [.ref pf, .ref L]) trivial hp
          refine ⟨_, rfl, _, rfl, _, _, _, _, rfl, rfl, SqL.of hD6, hat, _, _, _, _, rfl, rfl, SqT.of hp6, rfl, ?_⟩
          refine ⟨szL (Nat.le_of_ble_eq_true rfl), fun r2 nr2 => ?_⟩
          have k47 := k46.trans (But.of_same (b := b) (same_new (o := .tup [.ref r1, .ref L]) nr2))
          have B7 := B6.same (same_new (o := .tup [.ref r1, .ref L]) nr2)
          have e7 : upd H6 r2 (.tup [.ref r1, .ref L]) r2 = some (.tup [.ref r1, .ref L]) := upd_same
          have e6 := same_new (o := .tup [.ref r1, .ref L]) nr2 _ _ e6
          generalize upd H6 r2 (.tup [.ref r1, .ref L]) = H7 at k47 e7 B7 e6
          have hD7 := k47 _ _ neD hD4
          refine ⟨_, rfl, _, rfl, D, _, at', at'.toNat, rfl, rfl, hD7, ix, ?_⟩
          have zf : Fz H7 (upd H7 D (.lst (ys.set at'.toNat (.ref r2)))) := Fz.lst hD7
          have z47 := B4.fz k47
          refine ⟨_, rfl, _, rfl, _, rfl, D, _, rfl, SqL.of upd_same, fun p9 np9 => ?_⟩
          refine tail D _ _ upd_same (by rw [List.length_set]; omega) (by rw [List.length_set]; omega) (fun z hz => ?_) (box_ne B7 neD) (but_new (kk4.trans k47) nD0) p9 np9
          rcases List.mem_or_eq_of_mem_set hz with h | h
          · exact (((hys4 z h).but B4 k47).set hD7).weak.up
          · subst h
            exact ⟨r2, .ref r1, L, ls, rfl, zf _ _ trivial e7, ⟨r1, t, _, c, rfl, zf _ _ trivial e6, by omega, by omega, by omega, by omega, c0, c1⟩, n1, n1, by rw [upd_ne n2]; exact k47 _ _ n1 hL, l0, l1, fun x hx => ((q x hx).fz z47).fz zf⟩
        · refine ⟨_, rfl, rfl, _, rfl, ifB (fun e2 => ?_) (fun e2 => ?_)⟩
          · refine ⟨_, rfl, _, rfl, _, _, _, _, rfl, rfl, SqL.of hD4, hat, _, _, _, _, rfl, rfl, SqT.of hp, rfl, ?_⟩
            refine ⟨_, rfl, _, rfl, _, _, _, _, rfl, rfl, SqL.of hD4, hat, _, _, _, _, rfl, rfl, SqT.of hp, rfl, ?_⟩
            refine ⟨_, rfl, _, _, rfl, rfl, _, rfl, L, _, rfl, SqL.of hL, fun S1 nS1 => ?_⟩
            have lc : (cutV ls none (some (lanes - 1))).length ≤ 1 := by rw [cut_take ls (by omega), List.length_take]; omega
            refine ⟨_, rfl, _, rfl, b, far, rfl, B4.same (same_new nS1), f0, f1, fun u lu H5 hu B5 k5 => ?_⟩
            refine ⟨szL (Nat.le_of_ble_eq_true rfl), fun S2 nS2 => ?_⟩
            have hS1 : upd H5 S2 (.lst [u]) S1 = some (.lst (cutV ls none (some (lanes - 1)))) := same_new nS2 _ _ (k5 _ _ (B4.ne_none nS1) upd_same)
            have hS2 : upd H5 S2 (.lst [u]) S2 = some (.lst [u]) := upd_same
            have k46 : But b H4 (upd H5 S2 (.lst [u])) := ((But.of_same (same_new nS1)).trans k5).trans (But.of_same (same_new nS2))
            have B6 := B5.same (same_new (o := .lst [u]) nS2)
            have hu := hu.fz (Fz.new (o := .lst [u]) nS2)
            generalize upd H5 S2 (.lst [u]) = H6 at hS1 hS2 k46 B6 hu
            refine ⟨S1, S2, _, _, rfl, rfl, hS1, hS2, by have e := sizeLine_eq; show (cutV ls none (some (lanes - 1))).length + 1 ≤ sizeLine; omega, fun S3 nS3 => ?_⟩
            refine ⟨szL (Nat.le_of_ble_eq_true rfl), fun r2 nr2 => ?_⟩
            have k47 := (k46.trans (But.of_same (b := b) (same_new (o := .lst (cutV ls none (some (lanes - 1)) ++ [u])) nS3))).trans (But.of_same (b := b) (same_new (o := .tup [f, .ref S3]) nr2))
            have B7 := (B6.same (same_new (o := .lst (cutV ls none (some (lanes - 1)) ++ [u])) nS3)).same (same_new (o := .tup [f, .ref S3]) nr2)
            have e7 : upd (upd H6 S3 (.lst (cutV ls none (some (lanes - 1)) ++ [u]))) r2 (.tup [f, .ref S3]) r2 = some (.tup [f, .ref S3]) := upd_same
            have e3 : upd (upd H6 S3 (.lst (cutV ls none (some (lanes - 1)) ++ [u]))) r2 (.tup [f, .ref S3]) S3 = some (.lst (cutV ls none (some (lanes - 1)) ++ [u])) := same_new nr2 _ _ upd_same
            have hu := (hu.fz (Fz.new (o := .lst (cutV ls none (some (lanes - 1)) ++ [u])) nS3)).fz (Fz.new (o := .tup [f, .ref S3]) nr2)
            have nb3 : S3 ≠ b := B6.ne_none nS3
            have nD3 : S3 ≠ D := ne_of_none' (k46 _ _ neD hD4) nS3
            generalize upd (upd H6 S3 (.lst (cutV ls none (some (lanes - 1)) ++ [u]))) r2 (.tup [f, .ref S3]) = H7 at k47 e7 B7 e3 hu
            have hD7 := k47 _ _ neD hD4
            refine ⟨_, rfl, _, rfl, D, _, at', at'.toNat, rfl, rfl, hD7, ix, ?_⟩
            have zf : Fz H7 (upd H7 D (.lst (ys.set at'.toNat (.ref r2)))) := Fz.lst hD7
            have z47 := B4.fz k47
            refine ⟨_, rfl, _, rfl, _, rfl, D, _, rfl, SqL.of upd_same, fun p9 np9 => ?_⟩
            refine tail D _ _ upd_same (by rw [List.length_set]; omega) (by rw [List.length_set]; omega) (fun z hz => ?_) (box_ne B7 neD) (but_new (kk4.trans k47) nD0) p9 np9
            rcases List.mem_or_eq_of_mem_set hz with h | h
            · exact (((hys4 z h).but B4 k47).set hD7).weak.up
            · subst h
              refine ⟨r2, f, S3, _, rfl, zf _ _ trivial e7, ((hf.fz z47).fz zf).up, nb3, nb3, by rw [upd_ne nD3]; exact e3, by rw [List.length_append]; exact Nat.lt_of_lt_of_le (Nat.zero_lt_one) (Nat.le_add_left _ _), by rw [List.length_append]; show _ + 1 ≤ 2; omega, fun x hx => ?_⟩
              rcases List.mem_append.mp hx with h | h
              · exact ((q x (cut_mem h)).fz z47).fz zf
              · rw [List.mem_singleton] at h
                subst h
                exact ⟨lu, hu.fz zf⟩
          · refine ⟨_, rfl, rfl, _, rfl, ifB (fun e3 => ?_) (fun e3 => ?_)⟩
            · refine ⟨_, rfl, _, rfl, _, rfl, D, _, rfl, SqL.of hD4, fun S1 nS1 => ?_⟩
              have lc1 := cutV_length ys none (some at')
              have lc2 := cutV_length ys (some at') none
              refine ⟨_, rfl, _, rfl, b, 1, far, rfl, B4.same (same_new nS1), by decide, by decide, f0, f1, fun u du H5 lu hv hu B5 k5 => ?_⟩
              refine ⟨szL (Nat.le_of_ble_eq_true rfl), fun S2 nS2 => ?_⟩
              have hS1 : upd H5 S2 (.lst [u]) S1 = some (.lst (cutV ys none (some at'))) := same_new nS2 _ _ (k5 _ _ (B4.ne_none nS1) upd_same)
              have hS2 : upd H5 S2 (.lst [u]) S2 = some (.lst [u]) := upd_same
              have k46 : But b H4 (upd H5 S2 (.lst [u])) := ((But.of_same (same_new nS1)).trans k5).trans (But.of_same (same_new nS2))
              have B6 := B5.same (same_new (o := .lst [u]) nS2)
              have hu6 := (hv.d (hu D _ (same_new nS1 _ _ hD4))).weak.same (same_new (o := .lst [u]) nS2)
              generalize upd H5 S2 (.lst [u]) = H6 at hS1 hS2 k46 B6 hu6
              refine ⟨S1, S2, _, _, rfl, rfl, hS1, hS2, by have e := sizeLine_eq; show (cutV ys none (some at')).length + 1 ≤ sizeLine; omega, fun S3 nS3 => ?_⟩
              have k47 := k46.trans (But.of_same (b := b) (same_new (o := .lst (cutV ys none (some at') ++ [u])) nS3))
              have s67 := same_new (H := H6) (o := .lst (cutV ys none (some at') ++ [u])) nS3
              have e3 : upd H6 S3 (.lst (cutV ys none (some at') ++ [u])) S3 = some (.lst (cutV ys none (some at') ++ [u])) := upd_same
              generalize upd H6 S3 (.lst (cutV ys none (some at') ++ [u])) = H7 at k47 s67 e3
              refine ⟨_, rfl, _, rfl, _, rfl, D, _, rfl, SqL.of (k47 _ _ neD hD4), fun S4 nS4 => ?_⟩
              refine ⟨S3, S4, _, _, rfl, rfl, same_new nS4 _ _ e3, upd_same, by have e := sizeLine_eq; rw [List.length_append]; show (cutV ys none (some at')).length + 1 + _ ≤ sizeLine; omega, fun S5 nS5 => ?_⟩
              have s69 := (s67.trans (same_new (o := .lst (cutV ys (some at') none)) nS4)).trans (same_new (o := .lst ((cutV ys none (some at') ++ [u]) ++ cutV ys (some at') none)) nS5)
              have e5 : upd (upd H7 S4 (.lst (cutV ys (some at') none))) S5 (.lst ((cutV ys none (some at') ++ [u]) ++ cutV ys (some at') none)) S5 = some (.lst ((cutV ys none (some at') ++ [u]) ++ cutV ys (some at') none)) := upd_same
              generalize upd (upd H7 S4 (.lst (cutV ys (some at') none))) S5 (.lst ((cutV ys none (some at') ++ [u]) ++ cutV ys (some at') none)) = H9 at s69 e5
              have k49 := k46.trans (But.of_same (b := b) s69)
              refine ⟨_, rfl, _, rfl, _, rfl, S5, _, rfl, SqL.of e5, fun p9 np9 => ?_⟩
              refine tail S5 _ _ e5 (by rw [List.length_append, List.length_append]; show 0 < _ + 1 + _; omega) (by rw [List.length_append, List.length_append]; show _ + 1 + _ ≤ 100; omega) (fun z hz => ?_) (B6.same s69) (kk4.trans k49) p9 np9
              rcases List.mem_append.mp hz with h | h
              · rcases List.mem_append.mp h with h | h
                · exact ((hys4 z (cut_mem h)).but B4 k49).weak.up
                · rw [List.mem_singleton] at h
                  subst h
                  exact hu6.same s69
              · exact ((hys4 z (cut_mem h)).but B4 k49).weak.up
            · refine ⟨_, rfl, _, rfl, _, rfl, D, _, rfl, SqL.of hD4, fun p np => ?_⟩
              exact tail D ys H4 hD4 (by omega) (by omega) (fun z hz => (hys4 z hz).weak.up) B4 kk4 p np
    · refine ⟨_, rfl, _, rfl, b, blocks, rfl, B1, b0, by omega, fun m H2 m0' m1' B2 k2 => ?_⟩
      refine ⟨_, _, rfl, rfl, 1 + m, rfl, by omega, by omega, fun D hD => ?_⟩
      have neD := B2.ne_none hD
      refine lc_range (fun i Hc => ∃ ys, Hc D = some (.lst ys) ∧ ys.length = i ∧ (∀ y ∈ ys, BlockD 9 b D Hc y) ∧ Box Hc b ∧ But b H2 Hc) ⟨[], upd_same, rfl, (fun x h => nomatch h), B2.same (same_new hD), But.of_same (same_new hD)⟩ (fun i Hc hi hP => ?_) (fun Hc hP => ?_)
      · obtain ⟨ys, hDc, hl, hys, Bc, kc⟩ := hP
        refine ⟨rfl, _, rfl, _, rfl, _, rfl, b, lanes, far, rfl, Bc, m0, m1, f0, f1, fun u du H3 lu hv hu B3 k3 => ?_⟩
        have hD3 := k3 _ _ neD hDc
        refine ⟨ys, hD3, szl (by omega), ys ++ [u], upd_same, by rw [List.length_append, hl]; rfl, fun y hy => ?_, box_ne B3 neD, but_new (kc.trans k3) hD⟩
        rcases List.mem_append.mp hy with h | h
        · exact ((hys y h).but Bc k3).set hD3
        · rw [List.mem_singleton] at h
          subst h
          exact (hv.d (hu _ _ hDc)).set hD3
      · obtain ⟨ys, hDc, hl, hys, Bc, kc⟩ := hP
        exact k _ _ ⟨neD, ys, hDc, by omega, by omega, fun x hx => (hys x hx).weak⟩ Bc ((k1.trans k2).trans kc)

end
end K09
namespace K09
open PySem PySem.Spec PyProof.Rows L2 Rs
local macro_rules | `(tactic| walk_at "om") => `(tactic| first | omega | (dsimp only; omega))
local macro_rules | `(tactic| walk_at "side") => `(tactic| first | omega | (dsimp only; omega) | decide | (unfold CMul; omega) | (unfold CDiv; omega) | (unfold CPow; omega) | exact wide_div (b := 64) (by omega) (by omega) (by decide) (by decide))
local macro_rules | `(tactic| walk_at "hp") => `(tactic| first | assumption | exact upd_same)
local macro_rules | `(tactic| walk_at "sq") => `(tactic| first | assumption | exact SqL.of (by assumption) | exact SqL.of upd_same)
local macro_rules | `(tactic| walk_at "st") => `(tactic| first
  | refine ⟨_, rfl, ?_⟩
  | (refine ⟨_, _, rfl, rfl, And.intro ?side ?_⟩; (case side => walk_at "side"))
  | refine ⟨_, _, rfl, rfl, ?_⟩
  | (refine' ⟨_, _, _, _, rfl, rfl, SqL.of ?hp, ?atx, ?_⟩; (case hp => walk_at "hp"); (case atx => exact rfl))
  | (refine' ⟨_, _, _, _, rfl, rfl, ?hp, ?atx, ?_⟩; (case hp => walk_at "hp"); (case atx => exact rfl))
  | (refine' ⟨_, _, rfl, Or.inl ?sq, ?_⟩; (case sq => walk_at "sq"))
  | refine Or.inl ⟨_, rfl, ?_⟩
  | refine Or.inr ⟨_, rfl, ?_⟩)
local macro_rules | `(tactic| walk_at "evd") => `(tactic| first
  | exact evd_int
  | exact evd_str
  | exact evd_non
  | exact evd_bl
  | exact evd_nil
  | (refine evd_cons ?_ (fun _ => ?_) <;> walk_at "evd")
  | (refine evd_tup ?_ (Nat.le_of_ble_eq_true rfl); walk_at "evd"))

section
variable {P : Program} {w : World} {K : PySem.W.Frag} {mg : Str → Option Value} {base : Heap}
/-! a line read: any text -/
def roundsS (t q c : Int) : Str := Str.ofString "rounds " ++ formText t q c
theorem rounds_tl {t q c : Int} : TL.tl (roundsS t q c) = TL.tl (Str.ofString "rounds") ++ 32 :: TL.tl (formText t q c) := by
  unfold roundsS
  rw [TL.tl_append, show TL.tl (Str.ofString "rounds ") = TL.tl (Str.ofString "rounds") ++ [32] by decide, List.append_assoc]
  rfl
theorem no_empty : ¬ IsForm (Str.ofString "") := fun ⟨t, q, c, _, e⟩ => by
  have z : (upP (partU (Str.ofString ""))).2 = none := by decide
  rw [e, (parts_form (t := t) (q := q) (c := c)).1] at z
  cases z
theorem asc_empty : Asc (Str.ofString "") := fun c hc => by
  have e : TL.tl (Str.ofString "") = [] := by decide
  rw [e] at hc
  cases hc
def spRoundsG (CF : Addr) : Sp := fun vs H Q _ => ∃ s : Str, vs = [.str s] ∧ s.length ≤ 300 ∧ Asc s ∧ (∀ t q c y dy H', FormR t q c → s = roundsS t q c → Same H H' → H' y = some (.ins CF dy (fldF t q c)) → Q (.ref y) H') ∧
  ((∀ t q c, 1 ≤ c → s ≠ roundsS t q c) → ∀ H', Same H H' → Q .non H')
def t_rin (CF CI : Addr) : WX → TS := fun W => tRet (Rs.tCMethS CF (spReadG CF CI) (WE W) (tC (.ref CF)) (tCons (tVar 3) tNil))
theorem ok_rounds_in (T : Txt K mg) : FnOk P w K mg base CX0 7 T.a__rounds_in T.d__rounds_in ["line"] (spRoundsG T.c_Form) := by
  have RR : FnR P w K mg base (L2.CX P w) 6 T.a_Form_read (spReadG T.c_Form T.c_InvalidText) := fnR (ok_readG T) T.b_Form_read
  refine T.F__rounds_in.ok sc__rounds_in (fun vs H Q E h => ?_) (fun cdv A outer s H vs Q E hr h => ?_)
  · obtain ⟨x, rfl, _⟩ := h
    rfl
  · obtain ⟨x, rfl, hl, ha, k1, k2⟩ := h
    have nd := sc__rounds_in.nd
    refine ⟨_, (pss_cons (ps_asg (pe_partition (pv 0) pe_str) (pg_tup rfl (pgs_cons (pg_name (i := 1) nd rfl (Or.inl rfl)) (pgs_cons (pg_name (i := 2) nd rfl (Or.inl rfl)) (pgs_cons (pg_name (i := 3) nd rfl (Or.inl rfl)) pgs_nil)))))
      (pss_cons (ps_if (pt_cmpR op_ne (pv 1) pe_str (nomark _)) (pss_one (ps_ret pe_non)) pss_nil)
      (pss_one (ps_try_only (tb := t_rin T.c_Form T.c_InvalidText) (ts := fun _ _ _ => tRet (tC .non)) (Wout := fun _ _ _ _ => False) rfl rfl ⟨rfl, by decide, Or.inl T.m_InvalidText⟩ takes0
        (fun W pn xe tk _ => pss_one (ps_ret (by exact (Rs.pe_cmethT (pe_glob rfl T.m_Form (rel_ref _)) T.R_Form T.G_Form_read RR (hr.mono (by decide)) (fun σ => passAt tk σ) (pa_cons (pv 3) pa_nil)))))
        (fun a oe cls d pn hz hf => pss_one (ps_ret (by exact pe_non))))))), ?_⟩
    have e9 := sizeLine_eq
    have eb : TL.tl (Str.ofString " ") = [32] := by decide
    have er : 32 ∉ TL.tl (Str.ofString "rounds") := by decide
    have lx : (TL.tl x).length = x.length := tl_length x
    refine asg_go ?_
    by_cases h0 : 32 ∈ TL.tl x
    · obtain ⟨a, b, e, na⟩ := cut_first h0
      have ex : x = (⟨a.toArray⟩ : Str) ++ Str.ofString " " ++ (⟨b.toArray⟩ : Str) := tl_inj (by
        rw [e, TL.tl_append, TL.tl_append, eb, TL.tl_mk, TL.tl_mk, List.append_assoc]
        rfl)
      have lb : (⟨b.toArray⟩ : Str).length ≤ 300 := by
        rw [← tl_length, TL.tl_mk]
        have := congrArg List.length e
        rw [List.length_append, List.length_cons] at this
        omega
      have ab : Asc (⟨b.toArray⟩ : Str) := asc_sub ha fun c hc => by
        rw [TL.tl_mk] at hc
        rw [e]
        exact List.mem_append_right _ (List.mem_cons_of_mem _ hc)
      have cut : ∀ {t q c : Int}, x = roundsS t q c → (⟨a.toArray⟩ : Str) = Str.ofString "rounds" ∧ (⟨b.toArray⟩ : Str) = formText t q c := fun {t q c} h => by
        have h2 := congrArg TL.tl h
        rw [e, rounds_tl] at h2
        obtain ⟨f1, f2⟩ := cut_at na er h2
        exact ⟨tl_inj (by rw [TL.tl_mk]; exact f1), tl_inj (by rw [TL.tl_mk]; exact f2)⟩
      refine ⟨_, rfl, ⟨_, rfl⟩, _, _, rfl, rfl, by decide, by omega, fun p np => ?_⟩
      rw [show Txt.partition x (Str.ofString " ") = _ from (congrArg (fun z => Txt.partition z (Str.ofString " ")) ex).trans (TL.partition_app (y := Str.ofString " ") eb (by rw [TL.tl_mk]; exact na))]
      refine ⟨p, _, rfl, SqT.of upd_same, rfl, _, _, rfl, _, _, rfl, _, _, rfl, rfl, ?_⟩
      dsimp only [gName]
      have s0 := same_new (o := .tup [.str (⟨a.toArray⟩ : Str), .str (Str.ofString " "), .str (⟨b.toArray⟩ : Str)]) np
      refine seqif_go (tst_go ?_)
      refine ⟨_, rfl, rfl, _, rfl, ?_⟩
      by_cases ea : (⟨a.toArray⟩ : Str) = Str.ofString "rounds"
      · refine ifF (by rw [ea]; simp) ?_
        dsimp only [tNext]
        refine ⟨rfl, _, rfl, _, rfl, by omega, ab, fun t q c y dy H1 c1 mt mq mc ef s1 hy => ?_, fun no H1 d s1 hd => ?_⟩
        · refine k1 t q c y dy _ ⟨mt, mq, c1, mc, by rw [← ef]; exact lb⟩ ?_ (s0.trans s1) hy
          refine tl_inj ?_
          rw [rounds_tl, e, ← ef, TL.tl_mk, ← ea, TL.tl_mk]
        · refine ⟨true, T.e_InvalidText, fun _ a' ha' => ?_, fun q => Bool.noConfusion q⟩
          refine k2 (fun t q c c1 h => no ⟨t, q, c, c1, (cut h).2⟩) _ (s0.trans (s1.trans (same_new hd)))
      · refine ifT (by rw [decide_eq_false (fun z => ea (by injection z))]; rfl) ?_
        exact k2 (fun t q c _ h => ea (cut h).1) _ s0
    · refine ⟨_, rfl, ⟨_, rfl⟩, _, _, rfl, rfl, by decide, by omega, fun p np => ?_⟩
      rw [TL.partition_none (y := Str.ofString " ") eb h0]
      refine ⟨p, _, rfl, SqT.of upd_same, rfl, _, _, rfl, _, _, rfl, _, _, rfl, rfl, ?_⟩
      dsimp only [gName]
      have nor : ∀ t q c : Int, 1 ≤ c → x ≠ roundsS t q c := fun t q c _ h => h0 (by
        rw [h, rounds_tl]
        exact List.mem_append_right _ (List.mem_cons_self ..))
      have s0 := same_new (H := H) (o := .tup [.str x, .str (Str.ofString ""), .str (Str.ofString "")]) np
      refine seqif_go (tst_go ?_)
      refine ⟨_, rfl, rfl, _, rfl, ?_⟩
      by_cases ea : x = Str.ofString "rounds"
      · refine ifF (by rw [ea]; simp) ?_
        dsimp only [tNext]
        refine ⟨rfl, _, rfl, Str.ofString "", rfl, by decide, asc_empty, fun t q c y dy H1 c1 mt mq mc ef s1 hy => ?_, fun no H1 d s1 hd => ?_⟩
        · exact absurd ⟨t, q, c, c1, ef⟩ no_empty
        · refine ⟨true, T.e_InvalidText, fun _ a' ha' => ?_, fun q => Bool.noConfusion q⟩
          exact k2 nor _ (s0.trans (s1.trans (same_new hd)))
      · refine ifT (by rw [decide_eq_false (fun z => ea (by injection z))]; rfl) ?_
        exact k2 nor _ s0

end
end K09
namespace K09
open PySem PySem.Spec PyProof.Rows L2 Rs
local macro_rules | `(tactic| walk_at "om") => `(tactic| first | omega | (dsimp only; omega))
local macro_rules | `(tactic| walk_at "side") => `(tactic| first | omega | (dsimp only; omega) | decide | (unfold CMul; omega) | (unfold CDiv; omega) | (unfold CPow; omega) | exact wide_div (b := 64) (by omega) (by omega) (by decide) (by decide))
local macro_rules | `(tactic| walk_at "hp") => `(tactic| first | assumption | exact upd_same)
local macro_rules | `(tactic| walk_at "sq") => `(tactic| first | assumption | exact SqL.of (by assumption) | exact SqL.of upd_same)
local macro_rules | `(tactic| walk_at "st") => `(tactic| first
  | refine ⟨_, rfl, ?_⟩
  | (refine ⟨_, _, rfl, rfl, And.intro ?side ?_⟩; (case side => walk_at "side"))
  | refine ⟨_, _, rfl, rfl, ?_⟩
  | (refine' ⟨_, _, _, _, rfl, rfl, SqL.of ?hp, ?atx, ?_⟩; (case hp => walk_at "hp"); (case atx => exact rfl))
  | (refine' ⟨_, _, _, _, rfl, rfl, ?hp, ?atx, ?_⟩; (case hp => walk_at "hp"); (case atx => exact rfl))
  | (refine' ⟨_, _, rfl, Or.inl ?sq, ?_⟩; (case sq => walk_at "sq"))
  | refine Or.inl ⟨_, rfl, ?_⟩
  | refine Or.inr ⟨_, rfl, ?_⟩)
local macro_rules | `(tactic| walk_at "evd") => `(tactic| first
  | exact evd_int
  | exact evd_str
  | exact evd_non
  | exact evd_bl
  | exact evd_nil
  | (refine evd_cons ?_ (fun _ => ?_) <;> walk_at "evd")
  | (refine evd_tup ?_ (Nat.le_of_ble_eq_true rfl); walk_at "evd"))

section
variable {P : Program} {w : World} {K : PySem.W.Frag} {mg : Str → Option Value} {base : Heap}
/-! a text cut at a sign -/
def wordsL (s : Nat) : List Nat → List (List Nat)
  | [] => [[]]
  | c :: r => if c = s then [] :: wordsL s r else match wordsL s r with
    | [] => [[c]]
    | w :: ws => (c :: w) :: ws
theorem wordsL_ne {s : Nat} : ∀ {l : List Nat}, wordsL s l ≠ []
  | [], h => by cases h
  | c :: r, h => by
    unfold wordsL at h
    split at h
    · cases h
    · split at h <;> cases h
theorem wordsL_no {s : Nat} : ∀ {l : List Nat}, ∀ w ∈ wordsL s l, s ∉ w
  | [], w, h, m => by
    rw [List.mem_singleton.mp h] at m
    cases m
  | c :: r, w, h, m => by
    unfold wordsL at h
    split at h
    · rcases List.mem_cons.mp h with h | h
      · rw [h] at m
        cases m
      · exact wordsL_no w h m
    · rename_i nc
      split at h
      · rw [List.mem_singleton.mp h, List.mem_singleton] at m
        exact nc m.symm
      · rename_i w0 ws e
        rcases List.mem_cons.mp h with h | h
        · rw [h] at m
          rcases List.mem_cons.mp m with m | m
          · exact nc m.symm
          · exact wordsL_no w0 (by rw [e]; exact List.mem_cons_self ..) m
        · exact wordsL_no w (by rw [e]; exact List.mem_cons_of_mem _ h) m
theorem wordsL_mem {s : Nat} : ∀ {l : List Nat}, ∀ w ∈ wordsL s l, ∀ x ∈ w, x ∈ l
  | [], w, h, x, m => by
    rw [List.mem_singleton.mp h] at m
    cases m
  | c :: r, w, h, x, m => by
    unfold wordsL at h
    split at h
    · rcases List.mem_cons.mp h with h | h
      · rw [h] at m
        cases m
      · exact List.mem_cons_of_mem _ (wordsL_mem w h x m)
    · split at h
      · rw [List.mem_singleton.mp h, List.mem_singleton] at m
        rw [m]
        exact List.mem_cons_self ..
      · rename_i w0 ws e
        rcases List.mem_cons.mp h with h | h
        · rw [h] at m
          rcases List.mem_cons.mp m with m | m
          · rw [m]
            exact List.mem_cons_self ..
          · exact List.mem_cons_of_mem _ (wordsL_mem w0 (by rw [e]; exact List.mem_cons_self ..) x m)
        · exact List.mem_cons_of_mem _ (wordsL_mem w (by rw [e]; exact List.mem_cons_of_mem _ h) x m)
theorem wordsL_join {s : Nat} : ∀ {l : List Nat}, TL.joinL [s] (wordsL s l) = l
  | [] => rfl
  | c :: r => by
    have ih := wordsL_join (s := s) (l := r)
    unfold wordsL
    split
    · rename_i e
      cases h : wordsL s r with
      | nil => exact absurd h wordsL_ne
      | cons w ws =>
        rw [h] at ih
        show [] ++ ([s] ++ TL.joinL [s] (w :: ws)) = c :: r
        rw [ih, e]
        rfl
    · cases h : wordsL s r with
      | nil => exact absurd h wordsL_ne
      | cons w ws =>
        rw [h] at ih
        dsimp only
        cases ws with
        | nil =>
          show c :: w = c :: r
          rw [show w = r from ih]
        | cons w2 ws =>
          show (c :: w) ++ ([s] ++ TL.joinL [s] (w2 :: ws)) = c :: r
          have ih : w ++ ([s] ++ TL.joinL [s] (w2 :: ws)) = r := ih
          rw [List.cons_append, ih]
theorem wordsL_len {s : Nat} : ∀ {l : List Nat}, ((wordsL s l).map fun w => w.length).sum + (wordsL s l).length = l.length + 1
  | [] => rfl
  | c :: r => by
    have ih := wordsL_len (s := s) (l := r)
    unfold wordsL
    split
    · rw [List.map_cons, List.sum_cons, List.length_cons, List.length_nil, List.length_cons]
      omega
    · cases h : wordsL s r with
      | nil => exact absurd h wordsL_ne
      | cons w ws =>
        rw [h] at ih
        rw [List.map_cons, List.sum_cons, List.length_cons] at ih
        dsimp only
        rw [List.map_cons, List.sum_cons, List.length_cons, List.length_cons, List.length_cons]
        omega
/-- the words of a text, cut at s -/
def wordsS (s : Nat) (x : Str) : List Str := (wordsL s (TL.tl x)).map fun l => (⟨l.toArray⟩ : Str)
theorem wordsS_tl {s : Nat} {x : Str} : (wordsS s x).map TL.tl = wordsL s (TL.tl x) := by
  unfold wordsS
  rw [List.map_map]
  refine (List.map_congr_left fun l _ => ?_).trans (List.map_id _)
  exact TL.tl_mk l
theorem wordsS_ne {s : Nat} {x : Str} : wordsS s x ≠ [] := fun h => wordsL_ne (List.map_eq_nil_iff.mp h)
theorem wordsS_no {s : Nat} {x : Str} : ∀ w ∈ wordsS s x, s ∉ TL.tl w := fun w h => by
  have := List.mem_map_of_mem (f := TL.tl) h
  rw [wordsS_tl] at this
  exact wordsL_no _ this
theorem wordsS_sub {s : Nat} {x : Str} : ∀ w ∈ wordsS s x, ∀ c ∈ TL.tl w, c ∈ TL.tl x := fun w h => by
  have := List.mem_map_of_mem (f := TL.tl) h
  rw [wordsS_tl] at this
  exact wordsL_mem _ this
theorem wordsS_join {s : Nat} {x y : Str} (ey : TL.tl y = [s]) : Txt.join y (wordsS s x) = x := by
  refine tl_inj ?_
  rw [TL.join_eq, TL.tl_join, wordsS_tl, ey, wordsL_join]
theorem wordsS_split {s : Nat} {x y : Str} (ey : TL.tl y = [s]) (hk : y.cps.all (· < 256) = true) : Txt.split x y = wordsS s x := by
  have h := TL.split_join (y := y) (s := s) (S := []) ey hk (parts := wordsS s x) wordsS_ne wordsS_no
  rw [wordsS_join ey] at h
  exact h
theorem wordsS_len {s : Nat} {x : Str} : ((wordsS s x).map fun w => w.length).sum + (wordsS s x).length = x.length + 1 := by
  have h := wordsL_len (s := s) (l := TL.tl x)
  rw [tl_length] at h
  rw [← h, ← wordsS_tl, List.map_map, List.length_map]
  congr 2
theorem wordsS_short {s : Nat} {x w : Str} (h : w ∈ wordsS s x) : w.length ≤ x.length := by
  have e := wordsS_len (s := s) (x := x)
  obtain ⟨a, b, f⟩ := List.append_of_mem h
  rw [f, List.map_append, List.map_cons, List.sum_append, List.sum_cons, List.length_append, List.length_cons] at e
  omega

end
end K09
namespace K09
open PySem PySem.Spec PyProof.Rows L2 Rs
local macro_rules | `(tactic| walk_at "om") => `(tactic| first | omega | (dsimp only; omega))
local macro_rules | `(tactic| walk_at "side") => `(tactic| first | omega | (dsimp only; omega) | decide | (unfold CMul; omega) | (unfold CDiv; omega) | (unfold CPow; omega) | exact wide_div (b := 64) (by omega) (by omega) (by decide) (by decide))
local macro_rules | `(tactic| walk_at "hp") => `(tactic| first | assumption | exact upd_same)
local macro_rules | `(tactic| walk_at "sq") => `(tactic| first | assumption | exact SqL.of (by assumption) | exact SqL.of upd_same)
local macro_rules | `(tactic| walk_at "st") => `(tactic| first
  | refine ⟨_, rfl, ?_⟩
  | (refine ⟨_, _, rfl, rfl, And.intro ?side ?_⟩; (case side => walk_at "side"))
  | refine ⟨_, _, rfl, rfl, ?_⟩
  | (refine' ⟨_, _, _, _, rfl, rfl, SqL.of ?hp, ?atx, ?_⟩; (case hp => walk_at "hp"); (case atx => exact rfl))
  | (refine' ⟨_, _, _, _, rfl, rfl, ?hp, ?atx, ?_⟩; (case hp => walk_at "hp"); (case atx => exact rfl))
  | (refine' ⟨_, _, rfl, Or.inl ?sq, ?_⟩; (case sq => walk_at "sq"))
  | refine Or.inl ⟨_, rfl, ?_⟩
  | refine Or.inr ⟨_, rfl, ?_⟩)
local macro_rules | `(tactic| walk_at "evd") => `(tactic| first
  | exact evd_int
  | exact evd_str
  | exact evd_non
  | exact evd_bl
  | exact evd_nil
  | (refine evd_cons ?_ (fun _ => ?_) <;> walk_at "evd")
  | (refine evd_tup ?_ (Nat.le_of_ble_eq_true rfl); walk_at "evd"))

section
variable {P : Program} {w : World} {K : PySem.W.Frag} {mg : Str → Option Value} {base : Heap}
/-! a lane's line: any text -/
def spLaneE (CL CF CI : Addr) : Sp := fun vs H Q E => ∃ (x dx y : Addr) (l : LD), vs = [.ref x, .str l.w, .str l.s, .ref y, .str l.d] ∧ H x = some (.ins CL dx []) ∧ FormO CF H y l.t l.q l.c ∧
  (l.w ∈ ways → l.s ∈ signs → l.d ∈ deeds → Q .non (upd H x (.ins CL dx (fldL l y)))) ∧
  (¬ (l.w ∈ ways ∧ l.s ∈ signs ∧ l.d ∈ deeds) → ∀ wd d, H d = none → E (.ref CI) (some d) (upd H d (.xd [("word", .str wd)])))
theorem isOne_not {y : Str} {ys : List Str} (h : y ∉ ys) : isOne ys (.str y) = false := by
  cases e : isOne ys (.str y) with
  | false => rfl
  | true =>
    have e : ys.any (· == y) = true := e
    rw [List.any_eq_true] at e
    obtain ⟨z, hz, ez⟩ := e
    have : z = y := by simpa using ez
    exact absurd (this ▸ hz) h
theorem ok_excL (T : Txt K mg) : FnOk P w K mg base CX0 1 T.a_InvalidLane___init__ T.d_InvalidLane___init__ ["self", "word"] (spExc T.c_InvalidLane "word") := by
  refine T.F_InvalidLane___init__.ok sc_InvalidLane___init__ (fun vs H Q E h => ?_) (fun cdv A outer s H vs Q E hr h => ?_)
  · obtain ⟨a, v, rfl, _⟩ := h
    rfl
  · obtain ⟨a, v, rfl, ha, k⟩ := h
    refine ⟨_, pss_one (ps_ost (pv 0) (pv 1)), ?_⟩
    exact ⟨_, rfl, _, rfl, a, T.c_InvalidLane, rfl, T.x_InvalidLane, T.n_InvalidLane, .inl ⟨ha, fun dx hd ne => k dx hd ne⟩⟩
theorem ok_laneE (T : Txt K mg) : FnOk P w K mg base (L2.CX P w) 4 T.a_Lane___init__ T.d_Lane___init__ ["self", "way", "sign", "shift", "deed"] (spLaneE T.c_Lane T.c_Form T.c_InvalidLane) := by
  have GE_InvalidLane : FnOk P w K mg base CX0 1 T.a_InvalidLane___init__ T.d_InvalidLane___init__ ["self", "word"] (spExc T.c_InvalidLane "word") := ok_excL T
  refine T.F_Lane___init__.okX sc_Lane___init__ (fun vs H Q E h => ?_) (fun cdv A outer s H vs Q E hr h => ?_)
  · obtain ⟨x, dx, y, l, rfl, _⟩ := h
    rfl
  · obtain ⟨x, dx, y, l, rfl, hx, ⟨dy, hy⟩, kn, ke⟩ := h
    have nd := sc_Lane___init__.nd
    refine ⟨_, (pss_cons (ps_if (pt_cmpR (op_notInSh hr.units) (pv 1) (pe_glob rfl T.m_WAYS (rel_ref _)) (by rfl)) (pss_one (ps_raise rfl (takes_of rfl rfl rfl rfl) (pmk_oex T.x_InvalidLane T.i_InvalidLane T.t_InvalidLane GE_InvalidLane (hr.mono (by first | decide | omega)) T.b_InvalidLane___init__ .nil pass0 (by rfl) T.m_InvalidLane (pa_cons pe_str pa_nil)))) pss_nil)
    (pss_cons (ps_if (pt_cmpR (op_notInSh hr.units) (pv 2) (pe_glob rfl T.m_SIGNS (rel_ref _)) (by rfl)) (pss_one (ps_raise rfl (takes_of rfl rfl rfl rfl) (pmk_oex T.x_InvalidLane T.i_InvalidLane T.t_InvalidLane GE_InvalidLane (hr.mono (by first | decide | omega)) T.b_InvalidLane___init__ .nil pass0 (by rfl) T.m_InvalidLane (pa_cons pe_str pa_nil)))) pss_nil)
    (pss_cons (ps_if (pt_not (pt_val (pe_callB call_isi (by rfl) T.z_isinstance (by decide +kernel) (pa_cons (pv 3) (pa_cons (pe_glob rfl T.m_Form (rel_ref _)) pa_nil))))) (pss_one (ps_raise rfl (takes_of rfl rfl rfl rfl) (pmk_oex T.x_InvalidLane T.i_InvalidLane T.t_InvalidLane GE_InvalidLane (hr.mono (by first | decide | omega)) T.b_InvalidLane___init__ .nil pass0 (by rfl) T.m_InvalidLane (pa_cons pe_str pa_nil)))) pss_nil)
    (pss_cons (ps_if (pt_cmpR (op_notInSh hr.units) (pv 4) (pe_glob rfl T.m_DEEDS (rel_ref _)) (by rfl)) (pss_one (ps_raise rfl (takes_of rfl rfl rfl rfl) (pmk_oex T.x_InvalidLane T.i_InvalidLane T.t_InvalidLane GE_InvalidLane (hr.mono (by first | decide | omega)) T.b_InvalidLane___init__ .nil pass0 (by rfl) T.m_InvalidLane (pa_cons pe_str pa_nil)))) pss_nil)
    (pss_cons (ps_fld (pv 0) (pv 1) rfl)
    (pss_cons (ps_fld (pv 0) (pv 2) rfl)
    (pss_cons (ps_fld (pv 0) (pv 3) rfl)
    (pss_one (ps_fld (pv 0) (pv 4) rfl))))))))), ?_⟩
    refine ⟨_, rfl, x, _, ways, rfl, T.s_WAYS _, trivial, _, rfl, ?_⟩
    by_cases hw : l.w ∈ ways
    case neg => exact ifT (by rw [isOne_not hw]; rfl) (make_exc fun d hd => ke (fun z => hw z.1) "way" d hd)
    refine ifF (by simp [isOne_mem hw]) ?_
    refine ⟨_, rfl, x, _, signs, rfl, T.s_SIGNS _, trivial, _, rfl, ?_⟩
    by_cases hs : l.s ∈ signs
    case neg => exact ifT (by rw [isOne_not hs]; rfl) (make_exc fun d hd => ke (fun z => hs z.2.1) "sign" d hd)
    refine ifF (by simp [isOne_mem hs]) ?_
    refine ⟨_, rfl, _, _, _, _, _, rfl, .own _, T.I_Form.ty T.C_Form hy, kit_self, _, rfl, ifF rfl ?_⟩
    refine ⟨_, rfl, x, _, deeds, rfl, T.s_DEEDS _, trivial, _, rfl, ?_⟩
    by_cases hd : l.d ∈ deeds
    case neg => exact ifT (by rw [isOne_not hd]; rfl) (make_exc fun d h => ke (fun z => hd z.2.2) "deed" d h)
    refine ifF (by simp [isOne_mem hd]) ?_
    refine ⟨_, rfl, _, rfl, x, T.c_Lane, dx, _, rfl, hx, T.C_Lane, T.n_Lane_way, by decide, ?_⟩
    refine ⟨_, rfl, _, rfl, x, T.c_Lane, dx, _, rfl, upd_same, T.C_Lane, T.n_Lane_sign, by show 1 < 1000; decide, ?_⟩
    refine ⟨_, rfl, _, rfl, x, T.c_Lane, dx, _, rfl, upd_same, T.C_Lane, T.n_Lane_shift, by show 2 < 1000; decide, ?_⟩
    refine ⟨_, rfl, _, rfl, x, T.c_Lane, dx, _, rfl, upd_same, T.C_Lane, T.n_Lane_deed, by show 3 < 1000; decide, ?_⟩
    show Q .non _
    rw [upd_upd, upd_upd, upd_upd]
    exact kn hw hs hd

end
end K09
namespace K09
open PySem PySem.Spec PyProof.Rows L2 Rs
local macro_rules | `(tactic| walk_at "om") => `(tactic| first | omega | (dsimp only; omega))
local macro_rules | `(tactic| walk_at "side") => `(tactic| first | omega | (dsimp only; omega) | decide | (unfold CMul; omega) | (unfold CDiv; omega) | (unfold CPow; omega) | exact wide_div (b := 64) (by omega) (by omega) (by decide) (by decide))
local macro_rules | `(tactic| walk_at "hp") => `(tactic| first | assumption | exact upd_same)
local macro_rules | `(tactic| walk_at "sq") => `(tactic| first | assumption | exact SqL.of (by assumption) | exact SqL.of upd_same)
local macro_rules | `(tactic| walk_at "st") => `(tactic| first
  | refine ⟨_, rfl, ?_⟩
  | (refine ⟨_, _, rfl, rfl, And.intro ?side ?_⟩; (case side => walk_at "side"))
  | refine ⟨_, _, rfl, rfl, ?_⟩
  | (refine' ⟨_, _, _, _, rfl, rfl, SqL.of ?hp, ?atx, ?_⟩; (case hp => walk_at "hp"); (case atx => exact rfl))
  | (refine' ⟨_, _, _, _, rfl, rfl, ?hp, ?atx, ?_⟩; (case hp => walk_at "hp"); (case atx => exact rfl))
  | (refine' ⟨_, _, rfl, Or.inl ?sq, ?_⟩; (case sq => walk_at "sq"))
  | refine Or.inl ⟨_, rfl, ?_⟩
  | refine Or.inr ⟨_, rfl, ?_⟩)
local macro_rules | `(tactic| walk_at "evd") => `(tactic| first
  | exact evd_int
  | exact evd_str
  | exact evd_non
  | exact evd_bl
  | exact evd_nil
  | (refine evd_cons ?_ (fun _ => ?_) <;> walk_at "evd")
  | (refine evd_tup ?_ (Nat.le_of_ble_eq_true rfl); walk_at "evd"))

section
variable {P : Program} {w : World} {K : PySem.W.Frag} {mg : Str → Option Value} {base : Heap}
theorem exm_kit {K : PySem.W.Frag} {cls c : Value} (h : PySem.W.kitOne K cls c = some false) (e : PySem.W.exmOne K c c = some true) : PySem.W.exmOne K cls c = some false := by
  unfold PySem.W.exmOne at e ⊢
  split at e
  · rename_i h1
    rw [if_pos h1]
    unfold PySem.W.kitOne at h
    split at h
    · cases h
    · exact h
  · cases e
theorem blank_tl : TL.tl (Str.ofString " ") = [32] := by decide
theorem words_of_lane {l : LD} (i : LI l) : wordsS 32 (laneText l) = [l.w, l.s, formText l.t l.q l.c, l.d] := by
  rw [← wordsS_split (y := blank) (by decide) (by decide +kernel)]
  exact lane_split i
/-- which lines are lanes -/
theorem lane_words {x : Str} (h : x.length ≤ 300) : (∃ l, LI l ∧ x = laneText l) ↔ ∃ w s f d, wordsS 32 x = [w, s, f, d] ∧ w ∈ ways ∧ s ∈ signs ∧ d ∈ deeds ∧ ∃ t q c, FormR t q c ∧ f = formText t q c := by
  constructor
  · rintro ⟨l, i, rfl⟩
    exact ⟨_, _, _, _, words_of_lane i, i.w, i.s, i.d, l.t, l.q, l.c, i.r, rfl⟩
  · rintro ⟨w, s, f, d, e, hw, hs, hd, t, q, c, r, rfl⟩
    refine ⟨⟨w, s, t, q, c, d⟩, ⟨hw, hs, hd, r⟩, ?_⟩
    have j := wordsS_join (s := 32) (x := x) (y := blank) (by decide)
    rw [e] at j
    exact j.symm
def spLaneInG (CL CF : Addr) : Sp := fun vs H Q _ => ∃ s : Str, vs = [.str s] ∧ s.length ≤ 300 ∧ Asc s ∧ (∀ l u H', LI l → s = laneText l → Same H H' → LaneO CL CF H' u l → Q u H') ∧
  ((∀ l, LI l → s ≠ laneText l) → ∀ H', Same H H' → Q .non H')
def t_lin (CL CF CI CT : Addr) : WX → TS := fun W => tRet (tMakeS CL (spLaneE CL CF CI) (WE W) (tCons (tVar 2) (tCons (tVar 3) (tCons (Rs.tCMethS CF (spReadG CF CT) (WE W) (tC (.ref CF)) (tCons (tVar 4) tNil)) (tCons (tVar 5) tNil)))))
theorem ok_lane_in (T : Txt K mg) : FnOk P w K mg base CX0 7 T.a__lane_in T.d__lane_in ["line"] (spLaneInG T.c_Lane T.c_Form) := by
  have RR : FnR P w K mg base (L2.CX P w) 6 T.a_Form_read (spReadG T.c_Form T.c_InvalidText) := fnR (ok_readG T) T.b_Form_read
  have GI : FnOk P w K mg base (L2.CX P w) 4 T.a_Lane___init__ T.d_Lane___init__ ["self", "way", "sign", "shift", "deed"] (spLaneE T.c_Lane T.c_Form T.c_InvalidLane) := ok_laneE T
  refine T.F__lane_in.ok sc__lane_in (fun vs H Q E h => ?_) (fun cdv A outer s H vs Q E hr h => ?_)
  · obtain ⟨x, rfl, _⟩ := h
    rfl
  · obtain ⟨x, rfl, hl, ha, k1, k2⟩ := h
    have nd := sc__lane_in.nd
    refine ⟨_, (pss_cons (ps_set (i := 1) nd rfl (Or.inl rfl) (pe_split (pv 0) pe_str))
      (pss_cons (ps_if (pt_cmpR op_ne (pe_callB call_len_seq (by rfl) T.z_len (by decide +kernel) (pa_cons (pv 1) pa_nil)) pe_int (nomark _)) (pss_one (ps_ret pe_non)) pss_nil)
      (pss_cons (ps_asg (pv 1) (pg_tupL rfl (pgs_cons (pg_name (i := 2) nd rfl (Or.inl rfl)) (pgs_cons (pg_name (i := 3) nd rfl (Or.inl rfl)) (pgs_cons (pg_name (i := 4) nd rfl (Or.inl rfl)) (pgs_cons (pg_name (i := 5) nd rfl (Or.inl rfl)) pgs_nil))))))
      (pss_one (ps_try_tup (tb := t_lin T.c_Lane T.c_Form T.c_InvalidLane T.c_InvalidText) (ts := fun _ _ _ => tRet (tC .non)) (Wout := fun _ _ _ _ => False) rfl rfl ⟨rfl, by decide, Or.inl T.m_InvalidText⟩ ⟨rfl, by decide, Or.inl T.m_InvalidLane⟩ takes0
        (fun W pn xe tk _ => pss_one (ps_ret (by exact (pe_makeS T.M_Lane GI (hr.mono (by decide)) rfl T.m_Lane T.b_Lane___init__ tk (by exact (pa_cons (pv 2) (pa_cons (pv 3) (pa_cons (Rs.pe_cmethT (pe_glob rfl T.m_Form (rel_ref _)) T.R_Form T.G_Form_read RR (hr.mono (by decide)) (fun σ => passAt tk σ) (pa_cons (pv 4) pa_nil)) (pa_cons (pv 5) pa_nil)))))))))
        (fun a oe cls d pn hz hf => pss_one (ps_ret (by exact pe_non)))))))), ?_⟩
    have e9 := sizeLine_eq
    refine asg_go ?_
    refine ⟨_, rfl, ⟨_, rfl⟩, _, _, rfl, rfl, by decide, by omega, fun p np => ?_⟩
    rw [show Txt.split x (Str.ofString " ") = _ from wordsS_split blank_tl (by decide +kernel)]
    dsimp only [gName]
    have lw : (wordsS 32 x).length ≤ 301 := by
      have := wordsS_len (s := 32) (x := x)
      omega
    have s0 := same_new (H := H) (o := .lst ((wordsS 32 x).map V.str)) np
    refine seqif_go (tst_go ?_)
    refine ⟨_, rfl, p, _, rfl, .inl (SqL.of upd_same), rfl, _, rfl, ?_⟩
    have hwo := lane_words hl
    by_cases h4 : (wordsS 32 x).length = 4
    · obtain ⟨w, sg, f, dd, e⟩ : ∃ w s f d, wordsS 32 x = [w, s, f, d] := by
        cases h : wordsS 32 x with
        | nil => rw [h] at h4; cases h4
        | cons a r =>
        cases r with
        | nil => rw [h] at h4; cases h4
        | cons b r =>
        cases r with
        | nil => rw [h] at h4; cases h4
        | cons c r =>
        cases r with
        | nil => rw [h] at h4; cases h4
        | cons d r =>
        cases r with
        | nil => exact ⟨a, b, c, d, rfl⟩
        | cons _ _ => rw [h] at h4; simp at h4
      have fm : f ∈ wordsS 32 x := by rw [e]; simp
      have fl := wordsS_short fm
      have fa : Asc f := asc_sub ha (wordsS_sub f fm)
      rw [e] at hwo s0 ⊢
      refine ifF (by show (!decide (V.int ((4 : Nat) : Int) = V.int 4)) = false; decide) ?_
      dsimp only [tNext]
      refine asg_go ?_
      refine ⟨_, rfl, p, _, rfl, SqL.of upd_same, rfl, _, _, rfl, _, _, rfl, _, _, rfl, _, _, rfl, rfl, ?_⟩
      dsimp only [gName]
      refine ⟨_, rfl, _, rfl, rfl, _, rfl, f, rfl, by omega, fa, fun t q c y dy H1 c1 mt mq mc ef s1 hy => ?_, fun no H1 d s1 hd => ?_⟩
      · have r : FormR t q c := ⟨mt, mq, c1, mc, by rw [← ef]; omega⟩
        refine ⟨_, rfl, fun x2 dx nx ndx ne => ?_⟩
        have s2 : ∀ fs, Same H1 (upd (upd H1 dx (.own x2)) x2 (.ins T.c_Lane dx fs)) := fun fs => same_two nx ndx
        refine ⟨x2, dx, y, ⟨w, sg, t, q, c, dd⟩, rfl, upd_same, ⟨dy, s2 _ _ _ hy⟩, fun hw hs hd => ⟨rfl, ?_⟩, fun no wd d hd => ?_⟩
        · have li : LI ⟨w, sg, t, q, c, dd⟩ := ⟨hw, hs, hd, r⟩
          refine k1 ⟨w, sg, t, q, c, dd⟩ _ _ li ?_ ((s0.trans s1).trans (by rw [upd_upd]; exact s2 _)) ⟨x2, dx, y, rfl, upd_same, ⟨dy, ?_⟩, li⟩
          · have j := wordsS_join (s := 32) (x := x) (y := blank) (by decide)
            rw [e, ef] at j
            exact j.symm
          · rw [upd_upd]
            exact s2 _ _ _ hy
        · refine ⟨true, exm_pair (exm_kit T.kit_InvalidLane_InvalidText T.e_InvalidText) T.e_InvalidLane, fun _ a' ha' => ?_, fun q => Bool.noConfusion q⟩
          refine k2 (fun l i h => no ?_) _ (((s0.trans s1).trans (s2 _)).trans (same_new hd))
          have z := words_of_lane i
          rw [← h, e] at z
          simp only [List.cons.injEq, and_true] at z
          obtain ⟨z1, z2, z3, z4⟩ := z
          rw [z1, z2, z4]
          exact ⟨i.w, i.s, i.d⟩
      · refine ⟨true, exm_pair T.e_InvalidText (exm_kit T.kit_InvalidText_InvalidLane T.e_InvalidLane), fun _ a' ha' => ?_, fun q => Bool.noConfusion q⟩
        refine k2 (fun l i h => no ?_) _ ((s0.trans s1).trans (same_new hd))
        have z := words_of_lane i
        rw [← h, e] at z
        simp only [List.cons.injEq, and_true] at z
        obtain ⟨z1, z2, z3, z4⟩ := z
        exact ⟨l.t, l.q, l.c, i.r.c1, z3⟩
    · refine ifT ?_ ?_
      · rw [decide_eq_false (fun z => h4 (by injection z with z; rw [List.length_map] at z; omega))]
        rfl
      · refine k2 (fun l i h => h4 ?_) _ s0
        have z := words_of_lane i
        rw [← h] at z
        rw [z]
        rfl

end
end K09
namespace K09
open PySem PySem.Spec PyProof.Rows L2 Rs
local macro_rules | `(tactic| walk_at "om") => `(tactic| first | omega | (dsimp only; omega))
local macro_rules | `(tactic| walk_at "side") => `(tactic| first | omega | (dsimp only; omega) | decide | (unfold CMul; omega) | (unfold CDiv; omega) | (unfold CPow; omega) | exact wide_div (b := 64) (by omega) (by omega) (by decide) (by decide))
local macro_rules | `(tactic| walk_at "hp") => `(tactic| first | assumption | exact upd_same)
local macro_rules | `(tactic| walk_at "sq") => `(tactic| first | assumption | exact SqL.of (by assumption) | exact SqL.of upd_same)
local macro_rules | `(tactic| walk_at "st") => `(tactic| first
  | refine ⟨_, rfl, ?_⟩
  | (refine ⟨_, _, rfl, rfl, And.intro ?side ?_⟩; (case side => walk_at "side"))
  | refine ⟨_, _, rfl, rfl, ?_⟩
  | (refine' ⟨_, _, _, _, rfl, rfl, SqL.of ?hp, ?atx, ?_⟩; (case hp => walk_at "hp"); (case atx => exact rfl))
  | (refine' ⟨_, _, _, _, rfl, rfl, ?hp, ?atx, ?_⟩; (case hp => walk_at "hp"); (case atx => exact rfl))
  | (refine' ⟨_, _, rfl, Or.inl ?sq, ?_⟩; (case sq => walk_at "sq"))
  | refine Or.inl ⟨_, rfl, ?_⟩
  | refine Or.inr ⟨_, rfl, ?_⟩)
local macro_rules | `(tactic| walk_at "evd") => `(tactic| first
  | exact evd_int
  | exact evd_str
  | exact evd_non
  | exact evd_bl
  | exact evd_nil
  | (refine evd_cons ?_ (fun _ => ?_) <;> walk_at "evd")
  | (refine evd_tup ?_ (Nat.le_of_ble_eq_true rfl); walk_at "evd"))

section
variable {P : Program} {w : World} {K : PySem.W.Frag} {mg : Str → Option Value} {base : Heap}
/-! which line is what, and what is due -/
theorem rounds_join {d : BD} : roundsText d = Txt.join blank [Str.ofString "rounds", formText d.t d.q d.c] := by
  rw [TL.join_eq]
  unfold roundsText
  show _ = Str.ofString "rounds" ++ blank ++ formText d.t d.q d.c
  refine tl_inj ?_
  rw [TL.tl_append, TL.tl_append, TL.tl_append]
  have e : TL.tl (Str.ofString "rounds ") = TL.tl (Str.ofString "rounds") ++ TL.tl blank := by decide
  rw [e]
def IsR (s : Str) : Prop := ∃ t q c, FormR t q c ∧ s = roundsS t q c
def IsL (s : Str) : Prop := ∃ l, LI l ∧ s = laneText l
theorem words_of_rounds {t q c : Int} : wordsS 32 (roundsS t q c) = [Str.ofString "rounds", formText t q c] := by
  have e : roundsS t q c = Txt.join blank [Str.ofString "rounds", formText t q c] := rounds_join (d := ⟨t, q, c, []⟩)
  rw [e, ← wordsS_split (y := blank) (by decide) (by decide +kernel)]
  refine TL.split_join (s := 32) (S := []) (by decide) (by decide +kernel) (by simp) fun p h m => ?_
  simp only [List.mem_cons, List.not_mem_nil, or_false] at h
  rcases h with h | h <;> subst h
  · exact absurd m (by decide)
  · exact (form_signs _ m).2 rfl
theorem not_both {s : Str} (r : IsR s) (l : IsL s) : False := by
  obtain ⟨t, q, c, _, rfl⟩ := r
  obtain ⟨l, i, e⟩ := l
  have z := congrArg (wordsS 32) e
  rw [words_of_rounds, words_of_lane i] at z
  have z := congrArg List.length z
  exact absurd z (by simp only [List.length_cons, List.length_nil]; decide)
open Classical in
/-- 1: rounds, 2: a lane, 0: none -/
noncomputable def sortL (s : Str) : Nat := if IsR s then 1 else if IsL s then 2 else 0
theorem sort_R {s : Str} (h : IsR s) : sortL s = 1 := if_pos h
theorem sort_L {s : Str} (h : IsL s) : sortL s = 2 := by
  unfold sortL
  rw [if_neg (fun r => not_both r h), if_pos h]
theorem sort_0 {s : Str} (h : ¬ IsR s) (g : ¬ IsL s) : sortL s = 0 := by
  unfold sortL
  rw [if_neg h, if_neg g]
/-- the number with which lines are refused; b: what the line before was -/
noncomputable def dueL (b at_ : Nat) : List Str → Option Nat
  | [] => if b = 1 then some at_ else none
  | s :: r => if sortL s = 0 ∨ (sortL s = 2 ∧ b = 0) ∨ (sortL s = 1 ∧ b = 1) then some at_ else dueL (sortL s) (at_ + 1) r
theorem due_bad {b i : Nat} {x : Str} {r : List Str} (h : sortL x = 0 ∨ (sortL x = 2 ∧ b = 0) ∨ (sortL x = 1 ∧ b = 1)) : dueL b i (x :: r) = some i := if_pos h
theorem due_go {b i : Nat} {x : Str} {r : List Str} (h : ¬ (sortL x = 0 ∨ (sortL x = 2 ∧ b = 0) ∨ (sortL x = 1 ∧ b = 1))) : dueL b i (x :: r) = dueL (sortL x) (i + 1) r := if_neg h
theorem flat_ge : ∀ {ds : List BD}, ds.length ≤ (ds.flatMap blockLines).length
  | [] => Nat.le_refl _
  | d :: ds => by
    have := flat_ge (ds := ds)
    have b : 0 < (blockLines d).length := List.length_pos_iff.mpr lines_ne
    rw [List.flatMap_cons, List.length_append, List.length_cons]
    omega

end
end K09
namespace K09
open PySem PySem.Spec PyProof.Rows L2 Rs
local macro_rules | `(tactic| walk_at "om") => `(tactic| first | omega | (dsimp only; omega))
local macro_rules | `(tactic| walk_at "side") => `(tactic| first | omega | (dsimp only; omega) | decide | (unfold CMul; omega) | (unfold CDiv; omega) | (unfold CPow; omega) | exact wide_div (b := 64) (by omega) (by omega) (by decide) (by decide))
local macro_rules | `(tactic| walk_at "hp") => `(tactic| first | assumption | exact upd_same)
local macro_rules | `(tactic| walk_at "sq") => `(tactic| first | assumption | exact SqL.of (by assumption) | exact SqL.of upd_same)
local macro_rules | `(tactic| walk_at "st") => `(tactic| first
  | refine ⟨_, rfl, ?_⟩
  | (refine ⟨_, _, rfl, rfl, And.intro ?side ?_⟩; (case side => walk_at "side"))
  | refine ⟨_, _, rfl, rfl, ?_⟩
  | (refine' ⟨_, _, _, _, rfl, rfl, SqL.of ?hp, ?atx, ?_⟩; (case hp => walk_at "hp"); (case atx => exact rfl))
  | (refine' ⟨_, _, _, _, rfl, rfl, ?hp, ?atx, ?_⟩; (case hp => walk_at "hp"); (case atx => exact rfl))
  | (refine' ⟨_, _, rfl, Or.inl ?sq, ?_⟩; (case sq => walk_at "sq"))
  | refine Or.inl ⟨_, rfl, ?_⟩
  | refine Or.inr ⟨_, rfl, ?_⟩)
local macro_rules | `(tactic| walk_at "evd") => `(tactic| first
  | exact evd_int
  | exact evd_str
  | exact evd_non
  | exact evd_bl
  | exact evd_nil
  | (refine evd_cons ?_ (fun _ => ?_) <;> walk_at "evd")
  | (refine evd_tup ?_ (Nat.le_of_ble_eq_true rfl); walk_at "evd"))

section
variable {P : Program} {w : World} {K : PySem.W.Frag} {mg : Str → Option Value} {base : Heap}
/-- one block that is being read: its list of lanes does not stand at F -/
def Entry (CL CF F : Addr) (H : Hp) (v : V) (d : BD) : Prop := ∃ p y L us, v = .ref p ∧ H p = some (.tup [.ref y, .ref L]) ∧ FormO CF H y d.t d.q d.c ∧ L ≠ F ∧ H L = some (.lst us) ∧ AllR (LaneO CL CF H) us d.ls
theorem Entry.same {CL CF F : Addr} {H H' : Hp} {v : V} {d : BD} (h : Entry CL CF F H v d) (s : Same H H') : Entry CL CF F H' v d := by
  obtain ⟨p, y, L, us, e, hp, hy, n, hL, a⟩ := h
  exact ⟨p, y, L, us, e, s _ _ hp, hy.fz (Fz.of_same s), n, s _ _ hL, a.mono fun v l h => h.same s⟩
/-- the list at F is written -/
theorem Entry.setF {CL CF F : Addr} {H : Hp} {v : V} {d : BD} {xs : List V} {o : HO} (h : Entry CL CF F H v d) (e0 : H F = some (.lst xs)) : Entry CL CF F (upd H F o) v d := by
  obtain ⟨p, y, L, us, e, hp, hy, n, hL, a⟩ := h
  have z : Fz H (upd H F o) := Fz.lst e0
  exact ⟨p, y, L, us, e, z _ _ trivial hp, hy.fz z, n, by rw [upd_ne n]; exact hL, a.mono fun v l h => h.fz z⟩
/-- another list is written -/
theorem Entry.setL {CL CF F G : Addr} {H : Hp} {v : V} {d : BD} {xs : List V} {o : HO} (h : Entry CL CF F H v d) (off : Off G H v) (e0 : H G = some (.lst xs)) : Entry CL CF F (upd H G o) v d := by
  obtain ⟨p, y, L, us, rfl, hp, hy, n, hL, a⟩ := h
  obtain ⟨p', f', L', e', hp', nG⟩ := off
  cases e'
  rw [hp] at hp'
  have e2 := Option.some.inj hp'
  injection e2 with e2
  injection e2 with _ e2
  injection e2 with e2 _
  injection e2 with e2
  subst e2
  have z : Fz H (upd H G o) := Fz.lst e0
  exact ⟨p, y, L, us, rfl, z _ _ trivial hp, hy.fz z, n, by rw [upd_ne nG]; exact hL, a.mono fun v l h => h.fz z⟩
theorem AllR.last {α β : Type} {R : α → β → Prop} {as : List α} {bs : List β} (h : AllR R as bs) : as ≠ [] → ∃ as' a bs' b, as = as' ++ [a] ∧ bs = bs' ++ [b] ∧ AllR R as' bs' ∧ R a b := by
  induction h with
  | nil => intro n; exact absurd rfl n
  | cons z r ih =>
    intro _
    cases r with
    | nil => exact ⟨[], _, [], _, rfl, rfl, .nil, z⟩
    | cons z2 r2 =>
      obtain ⟨as', a', bs', b', e1, e2, h1, h2⟩ := ih (by simp)
      exact ⟨_ :: as', a', _ :: bs', b', by rw [e1]; rfl, by rw [e2]; rfl, .cons z h1, h2⟩

/-! blocks read from any lines -/
def GInv (CL CF : Addr) (H0 : Hp) (ls : List Str) (F : Addr) (i : Nat) (Hc : Hp) : Prop := ∃ vs, Hc F = some (.lst vs) ∧ Same H0 Hc ∧
  ((i = 0 ∧ vs = []) ∨
    ∃ pre d vp p y L us, ls.take i = (pre ++ [d]).flatMap blockLines ∧ vs = vp ++ [.ref p] ∧ AllR (fun v d => Entry CL CF F Hc v d ∧ Off L Hc v) vp pre ∧ (∀ d ∈ pre, BI d) ∧ FormR d.t d.q d.c ∧ (∀ l ∈ d.ls, LI l) ∧
      Hc p = some (.tup [.ref y, .ref L]) ∧ FormO CF Hc y d.t d.q d.c ∧ L ≠ F ∧ H0 L = none ∧ Hc L = some (.lst us) ∧ AllR (LaneO CL CF Hc) us d.ls ∧ dueL 0 0 ls = dueL (if d.ls = [] then 1 else 2) i (ls.drop i))
def spBlocksG (CB CL CF CT : Addr) : Sp := fun vs H Q E => ∃ (a : Addr) (ls : List Str), vs = [.ref a] ∧ H a = some (.lst (ls.map V.str)) ∧ ls ≠ [] ∧ ls.length ≤ 301 ∧ (∀ s ∈ ls, s.length ≤ 300 ∧ Asc s) ∧
  (∀ ds u bs H', dueL 0 0 ls = none → ds.flatMap blockLines = ls → (∀ d ∈ ds, BI d) → Same H H' → H' u = some (.lst bs) → AllR (BlockO CB CL CF H') bs ds → Q (.ref u) H') ∧
  (∀ n : Nat, dueL 0 0 ls = some n → ∀ H' d, Same H H' → H' d = none → E (.ref CT) (some d) (upd H' d (.xd [("at", .int n)])))
theorem ok_blocks_in (T : Txt K mg) : FnOk P w K mg base (L2.CX P w) 8 T.a__blocks_in T.d__blocks_in ["lines"] (spBlocksG T.c_Block T.c_Lane T.c_Form T.c_InvalidText) := by
  have G__rounds_in : FnOk P w K mg base CX0 7 T.a__rounds_in T.d__rounds_in ["line"] (spRoundsG T.c_Form) := ok_rounds_in T
  have G__lane_in : FnOk P w K mg base CX0 7 T.a__lane_in T.d__lane_in ["line"] (spLaneInG T.c_Lane T.c_Form) := ok_lane_in T
  have GI_Block : FnOk P w K mg base CX0 2 T.a_Block___init__ T.d_Block___init__ ["self", "rounds", "lanes"] (spBlockG K T.c_Block T.c_Form T.c_Lane) := ok_blockG T
  have GE_InvalidText : FnOk P w K mg base CX0 1 T.a_InvalidText___init__ T.d_InvalidText___init__ ["self", "at"] (spExc T.c_InvalidText "at") := ok_exc T
  refine T.F__blocks_in.okX sc__blocks_in (fun vs H Q E h => ?_) (fun cdv A outer s H vs Q E hr h => ?_)
  · obtain ⟨a, ls, rfl, _⟩ := h
    rfl
  · obtain ⟨a, ls, rfl, ha, ne, dl, sm, k1, k2⟩ := h
    have nd := sc__blocks_in.nd
    refine ⟨_, (pss_cons (ps_set (i := 1) nd rfl (Or.inl rfl) (pe_lst pa_nil))
    (pss_cons (ps_for (passes_of rfl) rfl (pi_enum (by rfl) T.z_enumerate (pa_cons (pv 0) pa_nil)) (pg_tup rfl (pgs_cons (pg_name (i := 2) nd rfl (Or.inl rfl)) (pgs_cons (pg_name (i := 3) nd rfl (Or.inl rfl)) pgs_nil)))
    (pss_cons (ps_set (i := 4) nd rfl (Or.inl rfl) (pe_call G__rounds_in (hr.mono (by first | decide | omega)) (by rfl) T.m__rounds_in T.k__rounds_in T.b__rounds_in .nil pass0 (pa_cons (pv 3) pa_nil)))
    (pss_cons (ps_set (i := 5) nd rfl (Or.inl rfl) (pe_call G__lane_in (hr.mono (by first | decide | omega)) (by rfl) T.m__lane_in T.k__lane_in T.b__lane_in .nil pass0 (pa_cons (pv 3) pa_nil)))
    (pss_one (ps_if (PW.pt (pw_and (pt_cmpR op_notN (pv 4) pe_non (nomark _)) (pw_and1 (PW.pt (pw_or (pt_cmpR op_eq (pe_callB call_len_seq (by rfl) T.z_len (by decide +kernel) (pa_cons (pv 1) pa_nil)) pe_int (nomark _)) (pw_or1 (pt_cmpR op_gt (pe_callB call_len_seq (by rfl) T.z_len (by decide +kernel) (pa_cons (pe_ix ix_seq (pe_ix ix_seq (pv 1) (pe_un un_neg pe_int) (fun _ _ => rfl)) pe_int (fun _ _ => rfl)) pa_nil)) pe_int (nomark _)))))))) (pss_one (ps_expr (pe_bm PySem.F.plainAttrs_list PySem.F.slot_list_append PySem.F.type_list_append mt_append (pv 1) (pa_cons (pe_tup (pa_cons (pv 4) (pa_cons (pe_lst pa_nil) pa_nil))) pa_nil)))) (pss_one (ps_if (PW.pt (pw_and (pt_cmpR op_notN (pv 5) pe_non (nomark _)) (pw_and1 (pt_cmpR op_gt (pe_callB call_len_seq (by rfl) T.z_len (by decide +kernel) (pa_cons (pv 1) pa_nil)) pe_int (nomark _))))) (pss_one (ps_expr (pe_bm PySem.F.plainAttrs_list PySem.F.slot_list_append PySem.F.type_list_append mt_append (pe_ix ix_seq (pe_ix ix_seq (pv 1) (pe_un un_neg pe_int) (fun _ _ => rfl)) pe_int (fun _ _ => rfl)) (pa_cons (pv 5) pa_nil)))) (pss_one (ps_raise rfl (takes_of rfl rfl rfl rfl) (pmk_oex T.x_InvalidText T.i_InvalidText T.t_InvalidText GE_InvalidText (hr.mono (by first | decide | omega)) T.b_InvalidText___init__ .nil pass0 (by rfl) T.m_InvalidText (pa_cons (pv 2) pa_nil)))))))))))
    (pss_cons (ps_if (pt_cmpR op_eq (pe_callB call_len_seq (by rfl) T.z_len (by decide +kernel) (pa_cons (pe_ix ix_seq (pe_ix ix_seq (pv 1) (pe_un un_neg pe_int) (fun _ _ => rfl)) pe_int (fun _ _ => rfl)) pa_nil)) pe_int (nomark _)) (pss_one (ps_raise rfl (takes_of rfl rfl rfl rfl) (pmk_oex T.x_InvalidText T.i_InvalidText T.t_InvalidText GE_InvalidText (hr.mono (by first | decide | omega)) T.b_InvalidText___init__ .nil pass0 (by rfl) T.m_InvalidText (pa_cons (pe_callB call_len_seq (by rfl) T.z_len (by decide +kernel) (pa_cons (pv 0) pa_nil)) pa_nil)))) pss_nil)
    (pss_one (ps_ret (pe_lc (own := [("rounds", 4), ("lanes", 6)]) (g := (gTup K 2 (gCons (gName 4) (gCons (gName 6) gNil)))) (by rfl) nd (pi_list (pv 1)) (blkOk_by (N := ["lines", "found", "at", "line", "rounds", "lane", "lanes"]) (sc := defScope s__blocks_in) (own := [("rounds", 4), ("lanes", 6)]) (by decide +kernel)) (fun _ _ _ _ _ => by exact (pg_tup rfl (pgs_cons (pg_name (i := 4) nd rfl (Or.inl rfl)) (pgs_cons (pg_name (i := 6) nd rfl (Or.inl rfl)) pgs_nil)))) (fun _ _ _ _ _ => by exact pts_nil) (fun _ _ _ _ _ => by exact (pe_make T.M_Block GI_Block (hr.mono (by first | decide | omega)) (by rfl) T.m_Block T.b_Block___init__ .nil pass0 (pa_cons (pv 4) (pa_cons (pv 6) pa_nil)))))))))), ?_⟩
    have e9 := sizeLine_eq
    refine ⟨szL (Nat.le_of_ble_eq_true rfl), fun F nF => ?_⟩
    have sF := same_new (o := .lst []) nF
    refine ⟨_, rfl, a, _, rfl, SqL.of (sF _ _ ha), for_it (walk_enum (xs := ls.map V.str)) (fun i σ Hc => ∃ y2 y3 y4 y5, σ = [some (.ref a), some (.ref F), y2, y3, y4, y5, none] ∧ GInv T.c_Lane T.c_Form H ls F i Hc)
      ⟨none, none, none, none, rfl, [], upd_same, sF, .inl ⟨rfl, rfl⟩⟩ (fun i σ Hc _ hR => ?_) (fun i v σ Hc H1 hi hP hy => ?_) (fun σ Hc hP => ?_)⟩
    · obtain ⟨_, _, _, _, _, _, _, s, _⟩ := hR
      exact SqL.of (s _ _ ha)
    · obtain ⟨y2, y3, y4, y5, rfl, vs, hF, sc, hst⟩ := hP
      obtain ⟨T', v1, v2, rfl, nT, rfl, h1, h2⟩ := hy
      cases h1
      have h2 : (ls.map V.str)[i]? = some v2 := h2
      rw [List.length_map] at hi
      obtain ⟨x, ex, rfl⟩ : ∃ x, ls[i]? = some x ∧ v2 = .str x := by
        rw [List.getElem?_map] at h2
        cases e : ls[i]? with
        | none => rw [e] at h2; cases h2
        | some x => rw [e] at h2; cases h2; exact ⟨x, rfl, rfl⟩
      obtain ⟨lx, ax⟩ := sm x (List.mem_of_getElem? ex)
      have edrop : ls.drop i = x :: ls.drop (i + 1) := by
        obtain ⟨hi2, e⟩ := List.getElem?_eq_some_iff.mp ex
        rw [List.drop_eq_getElem_cons hi2, e]
      have etake : ls.take (i + 1) = ls.take i ++ [x] := take_snoc ex
      refine ⟨T', _, rfl, SqT.of upd_same, rfl, _, _, rfl, _, _, rfl, rfl, ?_⟩
      have s1 := same_new (o := .tup [.int (i : Nat), .str x]) nT
      generalize upd Hc T' (.tup [.int (i : Nat), .str x]) = H1 at s1 ⊢
      dsimp only [gName]
      have s01 := s1
      refine asg_go ?_
      refine ⟨_, rfl, x, rfl, lx, ax, fun t q c y dy H2 r er s2 hy => ?_, fun nr H2 s2 => ?_⟩
      · dsimp only [gName]
        refine asg_go ?_
        refine ⟨_, rfl, x, rfl, lx, ax, fun l u H3 li el _ _ => (not_both ⟨t, q, c, r, er⟩ ⟨l, li, el⟩).elim, fun nl H3 s3 => ?_⟩
        dsimp only [gName]
        have hR : sortL x = 1 := sort_R ⟨t, q, c, r, er⟩
        have s13 := (s1.trans s2).trans s3
        have hF3 := s13 _ _ hF
        have hy3 : FormO T.c_Form H3 y t q c := ⟨dy, s3 _ _ hy⟩
        have fin : ∀ (pre : List BD) (L p : Addr), AllR (Entry T.c_Lane T.c_Form F H3) vs pre → (∀ d ∈ pre, BI d) → ls.take i = pre.flatMap blockLines → dueL 0 0 ls = dueL 1 (i + 1) (ls.drop (i + 1)) → H3 L = none → upd H3 L (.lst []) p = none → GInv T.c_Lane T.c_Form H ls F (i + 1) (upd (upd (upd H3 L (.lst [])) p (.tup [.ref y, .ref L])) F (.lst (vs ++ [.ref p]))) := by
          intro pre L p hvs3 bis etk edu nL np
          have t1 := same_new (o := .lst []) nL
          have t2 := same_new (o := .tup [.ref y, .ref L]) np
          have t12 := t1.trans t2
          have hF4 := t12 _ _ hF3
          have nLF : L ≠ F := fun e => by rw [e, hF3] at nL; cases nL
          have sH3 := sc.trans s13
          have nLH : H L = none := sH3.free nL
          have offs : ∀ v d, Entry T.c_Lane T.c_Form F H3 v d → Off L H3 v := fun v d h => by
            obtain ⟨p', y', L', us, e, hp', _, _, hL', _⟩ := h
            exact ⟨p', .ref y', L', e, hp', fun z => by rw [z, nL] at hL'; cases hL'⟩
          have z4 : Fz (upd (upd H3 L (.lst [])) p (.tup [.ref y, .ref L])) (upd (upd (upd H3 L (.lst [])) p (.tup [.ref y, .ref L])) F (.lst (vs ++ [.ref p]))) := Fz.lst hF4
          refine ⟨vs ++ [.ref p], upd_same, same_lst (sH3.trans t12) nF, .inr ⟨pre, ⟨t, q, c, []⟩, vs, p, y, L, [], ?_, rfl, hvs3.mono fun v d h => ⟨(h.same t12).setF hF4, ((offs v d h).fz (Fz.of_same t12)).fz z4⟩, bis, r, (fun l h => nomatch h), z4 _ _ trivial upd_same, ?_, nLF, nLH, ?_, .nil, ?_⟩⟩
          · rw [etake, etk, List.flatMap_append, er]
            rfl
          · exact (hy3.fz (Fz.of_same t12)).fz z4
          · rw [upd_ne nLF]
            exact t2 _ _ upd_same
          · rw [if_pos rfl]
            exact edu
        refine ifs_go ?_
        refine ⟨_, rfl, rfl, _, rfl, ifT (by rw [decide_eq_false (fun z => nomatch z)]; rfl) ?_⟩
        refine or_go (tst_go ?_)
        refine ⟨_, rfl, F, _, rfl, .inl (SqL.of hF3), rfl, _, rfl, ?_⟩
        rcases hst with ⟨i0, rfl⟩ | ⟨pre, d, vp, p, y0, L, us, etk, rfl, hvp, bis, rd, lis, hp, hy0, nLF, nL, hL, hus, edu⟩
        · refine ifT (by decide) (ifT rfl ?_)
          refine ⟨_, rfl, .inl ⟨rfl, _, SqL.of hF3⟩, _, rfl, szL (Nat.le_of_ble_eq_true rfl), fun L nL => ⟨szL (Nat.le_of_ble_eq_true rfl), fun p np => ⟨F, _, _, rfl, rfl, same_new np _ _ (same_new nL _ _ hF3), szl' (by decide), ?_⟩⟩⟩
          refine ⟨_, _, _, _, rfl, fin [] L p .nil (fun d h => nomatch h) (by rw [i0]; rfl) ?_ nL np⟩
          have e0 : ls = x :: ls.drop (i + 1) := by rw [← edrop, i0]; rfl
          conv => lhs; rw [e0]
          rw [due_go (by rw [hR]; simp), hR, i0]
        · refine ifF (decide_eq_false fun z => absurd (show ((vp ++ [V.ref p]).length : Int) = 0 by injection z) (by rw [List.length_append, List.length_singleton]; omega)) ?_
          have hp3 := s13 _ _ hp
          have hL3 := s13 _ _ hL
          have lus := hus.length
          obtain ⟨lpre, ldl⟩ : pre.length + 1 ≤ 301 ∧ d.ls.length ≤ 300 := by
            have e := congrArg List.length etk
            rw [List.length_take, List.flatMap_append, List.length_append, List.flatMap_cons, List.flatMap_nil, List.append_nil] at e
            have g := flat_ge (ds := pre)
            have b : (blockLines d).length = d.ls.length + 1 := by
              unfold blockLines
              rw [List.length_cons, List.length_map]
            omega
          have lvp := hvp.length
          refine tst_go ?_
          refine ⟨_, rfl, _, rfl, .inl ⟨F, _, -1, .ref p, rfl, rfl, SqL.of hF3, atI_last _ _, .inr (.inl ⟨p, _, 1, .ref L, rfl, rfl, SqT.of hp3, rfl, L, _, rfl, .inl (SqL.of hL3), _, _, rfl, rfl, _, rfl, ?_⟩)⟩⟩
          by_cases hd0 : d.ls = []
          · refine ifF (decide_eq_false (by rw [lus, hd0]; simp)) ?_
            refine ifs_go ?_
            refine ⟨_, rfl, rfl, _, rfl, ifF (by simp) (ifF rfl ?_)⟩
            refine ⟨_, rfl, make_exc (v := .int i) (σ := []) fun d' hd => k2 i (edu.trans ?_) _ d' (sc.trans s13) hd⟩
            rw [edrop, if_pos hd0]
            exact due_bad (.inr (.inr ⟨hR, rfl⟩))
          · have d0 : 0 < d.ls.length := List.length_pos_iff.mpr hd0
            refine ifT (decide_eq_true (by omega)) ?_
            refine ⟨_, rfl, .inl ⟨rfl, _, SqL.of hF3⟩, _, rfl, szL (Nat.le_of_ble_eq_true rfl), fun L' nL' => ⟨szL (Nat.le_of_ble_eq_true rfl), fun p' np' => ⟨F, _, _, rfl, rfl, same_new np' _ _ (same_new nL' _ _ hF3), szl' (by rw [List.length_append, List.length_singleton]; omega), ?_⟩⟩⟩
            refine ⟨_, _, _, _, rfl, fin (pre ++ [d]) L' p' ?_ (fun z hz => ?_) etk ?_ nL' np'⟩
            · refine AllR.snoc (hvp.mono fun v d h => h.1.same s13) ⟨p, y0, L, us, rfl, hp3, hy0.fz (Fz.of_same s13), nLF, hL3, hus.mono fun v l h => h.fz (Fz.of_same s13)⟩
            · rcases List.mem_append.mp hz with h | h
              · exact bis z h
              · rw [List.mem_singleton] at h
                subst h
                exact ⟨rd, d0, ldl, lis⟩
            · rw [edu, edrop, if_neg hd0, due_go (by rw [hR]; simp), hR]
      · have nR : ¬ IsR x := fun ⟨t, q, c, r, e⟩ => nr t q c r.c1 e
        dsimp only [gName]
        refine asg_go ?_
        refine ⟨_, rfl, x, rfl, lx, ax, fun l u H3 li el s3 hu => ?_, fun nl H3 s3 => ?_⟩
        · dsimp only [gName]
          have hS : sortL x = 2 := sort_L ⟨l, li, el⟩
          have s13 := (s1.trans s2).trans s3
          have hF3 := s13 _ _ hF
          obtain ⟨x9, d9, g9, rfl, _⟩ := id hu.ins
          refine ifs_go ?_
          refine ⟨_, rfl, rfl, _, rfl, ifF (by simp) (ifF rfl ?_)⟩
          refine ifs_go ?_
          refine ⟨_, rfl, rfl, _, rfl, ifT (by rw [decide_eq_false (fun z => nomatch z)]; rfl) ?_⟩
          refine tst_go ?_
          refine ⟨_, rfl, F, _, rfl, .inl (SqL.of hF3), _, _, rfl, rfl, _, rfl, ?_⟩
          rcases hst with ⟨i0, rfl⟩ | ⟨pre, d, vp, p, y0, L, us, etk, rfl, hvp, bis, rd, lis, hp, hy0, nLF, nL, hL, hus, edu⟩
          · refine ifF (by decide) ?_
            subst i0
            refine ⟨_, rfl, make_exc (v := .int ((0 : Nat) : Int)) (σ := []) fun d' hd => k2 0 ?_ _ d' (sc.trans s13) hd⟩
            have e0 : ls = x :: ls.drop 1 := edrop
            rw [e0]
            exact due_bad (.inr (.inl ⟨hS, rfl⟩))
          · refine ifT (decide_eq_true (by rw [List.length_append, List.length_singleton]; omega)) ?_
            have hp3 := s13 _ _ hp
            have hL3 := s13 _ _ hL
            have lus := hus.length
            have ldl : d.ls.length ≤ 300 := by
              have e := congrArg List.length etk
              rw [List.length_take, List.flatMap_append, List.length_append, List.flatMap_cons, List.flatMap_nil, List.append_nil] at e
              have b : (blockLines d).length = d.ls.length + 1 := by
                unfold blockLines
                rw [List.length_cons, List.length_map]
              omega
            refine ⟨_, rfl, _, rfl, .inl ⟨F, _, -1, .ref p, rfl, rfl, SqL.of hF3, atI_last _ _, .inr (.inl ⟨p, _, 1, .ref L, rfl, rfl, SqT.of hp3, rfl, .inl ⟨rfl, _, SqL.of hL3⟩, _, rfl, L, _, _, rfl, rfl, hL3, szl' (by omega), ?_⟩)⟩⟩
            have zL : Fz H3 (upd H3 L (.lst (us ++ [.ref x9]))) := Fz.lst hL3
            have z13 : Fz Hc H3 := Fz.of_same s13
            have hus4 : AllR (LaneO T.c_Lane T.c_Form (upd H3 L (.lst (us ++ [.ref x9])))) (us ++ [.ref x9]) (d.ls ++ [l]) := AllR.snoc (hus.mono fun v l h => (h.fz z13).fz zL) (hu.fz zL)
            have hvp4 : AllR (fun v d => Entry T.c_Lane T.c_Form F (upd H3 L (.lst (us ++ [.ref x9]))) v d ∧ Off L (upd H3 L (.lst (us ++ [.ref x9]))) v) vp pre := hvp.mono fun v d h => ⟨(h.1.same s13).setL (h.2.fz z13) hL3, (h.2.fz z13).fz zL⟩
            have hF4 : upd H3 L (.lst (us ++ [.ref x9])) F = some (.lst (vp ++ [.ref p])) := by
              rw [upd_ne (Ne.symm nLF)]
              exact hF3
            have hp4 : upd H3 L (.lst (us ++ [.ref x9])) p = some (.tup [.ref y0, .ref L]) := zL _ _ trivial hp3
            have hy4 := (hy0.fz z13).fz zL
            refine ⟨_, _, _, _, rfl, vp ++ [.ref p], hF4, same_lst (sc.trans s13) nL, .inr ⟨pre, ⟨d.t, d.q, d.c, d.ls ++ [l]⟩, vp, p, y0, L, us ++ [.ref x9], ?_, rfl, hvp4, bis, rd, fun z hz => ?_, hp4, hy4, nLF, nL, upd_same, hus4, ?_⟩⟩
            · rw [etake, etk, List.flatMap_append, List.flatMap_append, List.append_assoc, List.flatMap_cons, List.flatMap_nil, List.append_nil, List.flatMap_cons, List.flatMap_nil, List.append_nil, el]
              unfold blockLines
              rw [List.map_append, List.cons_append]
              rfl
            · rcases List.mem_append.mp hz with h | h
              · exact lis z h
              · rw [List.mem_singleton] at h
                subst h
                exact li
            · rw [edu, edrop, due_go (by rw [hS]; split <;> simp), hS, if_neg (by simp)]
        · dsimp only [gName]
          have nL0 : ¬ IsL x := fun ⟨l, li, e⟩ => nl l li e
          have hS : sortL x = 0 := sort_0 nR nL0
          have s13 := (s1.trans s2).trans s3
          refine ifs_go ?_
          refine ⟨_, rfl, rfl, _, rfl, ifF (by simp) (ifF rfl ?_)⟩
          refine ifs_go ?_
          refine ⟨_, rfl, rfl, _, rfl, ifF (by simp) (ifF rfl ?_)⟩
          refine ⟨_, rfl, make_exc (v := .int i) (σ := []) fun d' hd => k2 i ?_ _ d' (sc.trans s13) hd⟩
          rcases hst with ⟨i0, rfl⟩ | ⟨pre, d, vp, p, y0, L, us, etk, rfl, hvp, bis, rd, lis, hp, hy0, nLF, nL, hL, hus, edu⟩
          · subst i0
            have e0 : ls = x :: ls.drop 1 := edrop
            rw [e0]
            exact due_bad (.inl hS)
          · rw [edu, edrop]
            exact due_bad (.inl hS)
    · obtain ⟨y2, y3, y4, y5, rfl, vs, hF, sc, hst⟩ := hP
      rw [List.length_map] at hst
      rcases hst with ⟨i0, _⟩ | ⟨pre, d, vp, p, y0, L, us, etk, rfl, hvp, bis, rd, lis, hp, hy0, nLF, nL, hL, hus, edu⟩
      · exact absurd (List.length_eq_zero_iff.mp i0) ne
      rw [List.take_length] at etk
      rw [List.drop_length] at edu
      have lus := hus.length
      have lvp := hvp.length
      have len : (ls.map V.str).length = ls.length := List.length_map ..
      obtain ⟨lpre, ldl⟩ : pre.length + 1 ≤ 301 ∧ d.ls.length ≤ 300 := by
        have e := congrArg List.length etk
        rw [List.flatMap_append, List.length_append, List.flatMap_cons, List.flatMap_nil, List.append_nil] at e
        have g := flat_ge (ds := pre)
        have b : (blockLines d).length = d.ls.length + 1 := by
          unfold blockLines
          rw [List.length_cons, List.length_map]
        omega
      dsimp only
      refine seqif_go (tst_go ?_)
      refine ⟨_, rfl, _, rfl, .inl ⟨F, _, -1, .ref p, rfl, rfl, SqL.of hF, atI_last _ _, .inr (.inl ⟨p, _, 1, .ref L, rfl, rfl, SqT.of hp, rfl, L, _, rfl, .inl (SqL.of hL), rfl, _, rfl, ?_⟩)⟩⟩
      by_cases hd0 : d.ls = []
      · refine ifT (decide_eq_true (by rw [lus, hd0]; rfl)) ?_
        refine ⟨_, rfl, a, _, rfl, .inl (SqL.of (sc _ _ ha)), ?_⟩
        rw [len]
        refine make_exc (v := .int ls.length) (σ := []) fun d' hd => k2 ls.length (edu.trans ?_) _ d' sc hd
        rw [if_pos hd0]
        exact if_pos rfl
      · have d0 : 0 < d.ls.length := List.length_pos_iff.mpr hd0
        refine ifF (decide_eq_false fun z => ?_) ?_
        · injection z with z
          omega
        have whole : AllR (Entry T.c_Lane T.c_Form F Hc) (vp ++ [.ref p]) (pre ++ [d]) := AllR.snoc (hvp.mono fun v d h => h.1) ⟨p, y0, L, us, rfl, hp, hy0, nLF, hL, hus⟩
        have bis2 : ∀ z ∈ pre ++ [d], BI z := fun z hz => by
          rcases List.mem_append.mp hz with h | h
          · exact bis z h
          · rw [List.mem_singleton] at h
            subst h
            exact ⟨rd, d0, ldl, lis⟩
        have due0 : dueL 0 0 ls = none := by
          rw [edu, if_neg hd0]
          exact if_neg (by decide)
        generalize pre ++ [d] = ds at whole bis2 etk
        generalize hvs : vp ++ [V.ref p] = vs at whole hF
        have lv := whole.length
        have lds : vs.length ≤ 301 := by rw [← hvs, List.length_append, List.length_singleton]; omega
        dsimp only [tNext]
        refine ret_go ?_
        refine ⟨_, rfl, F, rfl, ⟨_, SqL.of hF⟩, fun G nG => ?_⟩
        refine lc_list (xs := vs) (fun i Hd => ∃ bs, Hd G = some (.lst bs) ∧ AllR (BlockO T.c_Block T.c_Lane T.c_Form Hd) bs (ds.take i) ∧ Same Hc Hd) ⟨[], upd_same, .nil, same_new nG⟩ (fun i Hd _ hR => by obtain ⟨_, _, _, s⟩ := hR; exact SqL.of (s _ _ hF)) (fun i v Hd hv hP => ?_) (fun Hd hP => ?_)
        · obtain ⟨bs, hGd, hbs, sd⟩ := hP
          obtain ⟨d, ed, hd⟩ := whole.get hv
          obtain ⟨p, y, L, us, rfl, hp, ⟨dy, hy⟩, _, hL, hus⟩ := hd.same sd
          have di := bis2 d (List.mem_of_getElem? ed)
          have lb := hbs.length
          rw [List.length_take] at lb
          refine ⟨p, _, rfl, SqT.of hp, rfl, _, _, rfl, _, _, rfl, rfl, rfl, ?_⟩
          refine ⟨_, rfl, _, rfl, fun x2 d2 nx nd2 ne2 => ?_⟩
          refine make_block (t := d.t) (q := d.q) (c := d.c) (ls := d.ls) hy (.inl hL) hus di nx nd2 fun H4 s4 bO => ⟨rfl, ?_⟩
          have hG4 := s4 _ _ hGd
          have zz : Fz H4 (upd H4 G (.lst (bs ++ [.ref x2]))) := Fz.lst hG4
          refine ⟨bs, hG4, szl' (by omega), bs ++ [.ref x2], upd_same, ?_, same_lst (sd.trans s4) nG⟩
          rw [take_snoc ed]
          exact AllR.snoc (hbs.mono fun v d h => (h.same s4).fz zz) (bO.fz zz)
        · obtain ⟨bs, hGd, hbs, sd⟩ := hP
          rw [lv, List.take_length] at hbs
          exact k1 ds _ bs _ due0 etk.symm bis2 (sc.trans sd) hGd hbs

end
end K09
namespace K09
open PySem PySem.Spec PyProof.Rows L2 Rs
local macro_rules | `(tactic| walk_at "om") => `(tactic| first | omega | (dsimp only; omega))
local macro_rules | `(tactic| walk_at "side") => `(tactic| first | omega | (dsimp only; omega) | decide | (unfold CMul; omega) | (unfold CDiv; omega) | (unfold CPow; omega) | exact wide_div (b := 64) (by omega) (by omega) (by decide) (by decide))
local macro_rules | `(tactic| walk_at "hp") => `(tactic| first | assumption | exact upd_same)
local macro_rules | `(tactic| walk_at "sq") => `(tactic| first | assumption | exact SqL.of (by assumption) | exact SqL.of upd_same)
local macro_rules | `(tactic| walk_at "st") => `(tactic| first
  | refine ⟨_, rfl, ?_⟩
  | (refine ⟨_, _, rfl, rfl, And.intro ?side ?_⟩; (case side => walk_at "side"))
  | refine ⟨_, _, rfl, rfl, ?_⟩
  | (refine' ⟨_, _, _, _, rfl, rfl, SqL.of ?hp, ?atx, ?_⟩; (case hp => walk_at "hp"); (case atx => exact rfl))
  | (refine' ⟨_, _, _, _, rfl, rfl, ?hp, ?atx, ?_⟩; (case hp => walk_at "hp"); (case atx => exact rfl))
  | (refine' ⟨_, _, rfl, Or.inl ?sq, ?_⟩; (case sq => walk_at "sq"))
  | refine Or.inl ⟨_, rfl, ?_⟩
  | refine Or.inr ⟨_, rfl, ?_⟩)
local macro_rules | `(tactic| walk_at "evd") => `(tactic| first
  | exact evd_int
  | exact evd_str
  | exact evd_non
  | exact evd_bl
  | exact evd_nil
  | (refine evd_cons ?_ (fun _ => ?_) <;> walk_at "evd")
  | (refine evd_tup ?_ (Nat.le_of_ble_eq_true rfl); walk_at "evd"))

section
variable {P : Program} {w : World} {K : PySem.W.Frag} {mg : Str → Option Value} {base : Heap}
/-- a tuple; without items it may be the written one -/
def TupE (K : PySem.W.Frag) (H : Hp) (a : Addr) (bs : List V) : Prop := H a = some (.tup bs) ∨ (bs = [] ∧ SqT K H a [])
theorem TupE.same {H H' : Hp} {a : Addr} {bs : List V} (h : TupE K H a bs) (s : Same H H') : TupE K H' a bs := h.imp (s _ _) fun h => ⟨h.1, Same.seqT s h.2⟩
theorem TupE.t {H : Hp} {a : Addr} {bs : List V} (h : TupE K H a bs) : SqT K H a bs := by
  rcases h with h | ⟨rfl, h⟩
  · exact SqT.of h
  · exact h
/-- a plan's object; without blocks its tuple may be the written one -/
def PlanE (K : PySem.W.Frag) (CP CB CL CF : Addr) (H : Hp) (v : V) (ds : List BD) : Prop := ∃ x dx tp bs d, v = .ref x ∧ H x = some (.ins CP dx (planF tp d)) ∧ TupE K H tp bs ∧ AllR (BlockO CB CL CF H) bs ds
theorem PlanE.same {CP CB CL CF : Addr} {H H' : Hp} {v : V} {ds : List BD} (h : PlanE K CP CB CL CF H v ds) (s : Same H H') : PlanE K CP CB CL CF H' v ds := by
  obtain ⟨x, dx, tp, bs, d, e, hx, ht, a⟩ := h
  exact ⟨x, dx, tp, bs, d, e, s _ _ hx, ht.same s, a.mono fun v l h => h.same s⟩
theorem PlanE.t {CP CB CL CF : Addr} {H : Hp} {v : V} {ds : List BD} (h : PlanE K CP CB CL CF H v ds) : PlanT K CP CB CL CF H v ds := by
  obtain ⟨x, dx, tp, bs, d, e, hx, ht, a⟩ := h
  exact ⟨x, dx, tp, bs, d, e, hx, ht.t, a⟩
theorem PlanO.e {CP CB CL CF : Addr} {H : Hp} {v : V} {ds : List BD} (h : PlanO CP CB CL CF H v ds) : PlanE K CP CB CL CF H v ds := by
  obtain ⟨x, dx, tp, bs, d, e, hx, ht, a⟩ := h
  exact ⟨x, dx, tp, bs, d, e, hx, .inl ht, a⟩
theorem PlanE.two {CP CB CL CF : Addr} {H : Hp} {v : V} {ds : List BD} (h : PlanE K CP CB CL CF H v ds) : PlanO CP CB CL CF H v ds ∨ (ds = [] ∧ PlanT K CP CB CL CF H v []) := by
  obtain ⟨x, dx, tp, bs, d, e, hx, ht, a⟩ := h
  rcases ht with ht | ⟨rfl, ht⟩
  · exact .inl ⟨x, dx, tp, bs, d, e, hx, ht, a⟩
  · cases a
    exact .inr ⟨rfl, x, dx, tp, [], d, e, hx, ht, .nil⟩
theorem peq_same {CP CB CL CF : Addr} {H : Hp} {u v : V} {ds : List BD} {Q : VK} {E : XK} (h1 : PlanE K CP CB CL CF H u ds) (h2 : PlanE K CP CB CL CF H v ds) (k : ∀ H', Same H H' → Q (.bl true) H') : spPEq K CP CB CL CF [u, v] H Q E := by
  refine ⟨u, v, rfl, ?_⟩
  rcases h1.two with h3 | ⟨rfl, h3⟩
  · rcases h2.two with h4 | ⟨rfl, h4⟩
    · exact .inl ⟨ds, h3, .inl ⟨ds, h4, fun H' s => by rw [decide_eq_true rfl]; exact k H' s⟩⟩
    · exact .inr ⟨h3.t, h4, k⟩
  · exact .inr ⟨h3, h2.t, k⟩
theorem make_plan {CP CB CL CF : Addr} {H : Hp} {x dx a : Addr} {bs : List V} {ds : List BD} {Q : VK} {E : XK} (ha : H a = some (.lst bs) ∨ H a = some (.tup bs)) (ab : AllR (BlockO CB CL CF H) bs ds) (nx : H x = none) (nd : H dx = none) (l : ds.length ≤ 1000)
    (k : ∀ H', Same H H' → PlanO CP CB CL CF H' (.ref x) ds → Q .non H') : spPlanS K CP CB [.ref x, .ref a] (upd (upd H dx (.own x)) x (.ins CP dx [])) Q E := by
  have sb := same_two (o1 := .own x) (o2 := .ins CP dx []) nx nd
  have hgb := ab.mono fun v l h => h.same sb
  have e := ab.length
  refine ⟨x, dx, a, bs, rfl, upd_same, by omega, fun y hy => ?_, ?_⟩
  · obtain ⟨l, _, hl⟩ := hgb.left hy
    exact hl.ins
  rcases ha with ha | ha
  · refine .inl ⟨sb _ _ ha, fun H10 tp d s10 htp => ?_⟩
    have s3 : Same H (upd H10 x (.ins CP dx (planF tp d))) := same_make nx nd s10
    have hx7 : H10 x = some (.ins CP dx []) := s10 _ _ upd_same
    have ntx : tp ≠ x := by
      rintro rfl
      rw [hx7] at htp
      cases htp
    exact k _ s3 ⟨x, dx, tp, bs, d, rfl, upd_same, by rw [upd_ne ntx]; exact htp, ab.mono fun v l h => h.same s3⟩
  · refine .inr ⟨SqT.of (sb _ _ ha), fun H10 d s10 => ?_⟩
    have s3 : Same H (upd H10 x (.ins CP dx (planF a d))) := same_make nx nd s10
    exact k _ s3 ⟨x, dx, a, bs, d, rfl, upd_same, s3 _ _ ha, ab.mono fun v l h => h.same s3⟩
theorem make_planE {CP CB CL CF : Addr} {H : Hp} {x dx a : Addr} {bs : List V} {ds : List BD} {Q : VK} {E : XK} (ha : TupE K H a bs) (ab : AllR (BlockO CB CL CF H) bs ds) (nx : H x = none) (nd : H dx = none) (l : ds.length ≤ 1000)
    (k : ∀ H', Same H H' → PlanE K CP CB CL CF H' (.ref x) ds → Q .non H') : spPlanS K CP CB [.ref x, .ref a] (upd (upd H dx (.own x)) x (.ins CP dx [])) Q E := by
  rcases id ha with h | ⟨rfl, h⟩
  · exact make_plan (.inr h) ab nx nd l fun H' s h => k H' s h.e
  · have sb := same_two (o1 := .own x) (o2 := .ins CP dx []) nx nd
    refine ⟨x, dx, a, [], rfl, upd_same, by decide, fun y hy => absurd hy (by simp), .inr ⟨Same.seqT sb h, fun H10 d s10 => ?_⟩⟩
    have s3 : Same H (upd H10 x (.ins CP dx (planF a d))) := same_make nx nd s10
    exact k _ s3 ⟨x, dx, a, [], d, rfl, upd_same, ha.same s3, ab.mono fun v l h => h.same s3⟩

/-! Plan.read of any text -/
/-- the number with which a text is refused -/
noncomputable def dueT (x : Str) : Option Nat := if x = Str.ofString "" then none else dueL 0 0 (wordsS 10 x)
def spPReadG (K : PySem.W.Frag) (CP CB CL CF CT : Addr) : Sp := fun vs H Q E => ∃ (x : Str), vs = [.ref CP, .str x] ∧ x.length ≤ 300 ∧ Asc x ∧
  (∀ ds u H', dueT x = none → planText ds = x → ds.length ≤ 150 → (∀ d ∈ ds, BI d) → Same H H' → PlanE K CP CB CL CF H' u ds → Q u H') ∧
  (∀ n : Nat, dueT x = some n → ∀ H' d, Same H H' → H' d = none → E (.ref CT) (some d) (upd H' d (.xd [("at", .int n)])))
theorem two_lines : ∀ {ds : List BD}, (∀ d ∈ ds, BI d) → 2 * ds.length ≤ (ds.flatMap blockLines).length
  | [], _ => Nat.le_refl _
  | d :: ds, h => by
    have ih := two_lines (ds := ds) fun z hz => h z (List.mem_cons_of_mem _ hz)
    have l0 := (h d (List.mem_cons_self ..)).l0
    have b : (blockLines d).length = d.ls.length + 1 := by
      unfold blockLines
      rw [List.length_cons, List.length_map]
    rw [List.flatMap_cons, List.length_append, List.length_cons]
    omega
theorem ok_preadG (T : Txt K mg) : FnOk P w K mg base (L2.CX P w) 9 T.a_Plan_read T.d_Plan_read ["cls", "text"] (spPReadG K T.c_Plan T.c_Block T.c_Lane T.c_Form T.c_InvalidText) := by
  have G : FnOk P w K mg base (L2.CX P w) 8 T.a__blocks_in T.d__blocks_in ["lines"] (spBlocksG T.c_Block T.c_Lane T.c_Form T.c_InvalidText) := ok_blocks_in T
  have GI_Plan : FnOk P w K mg base CX0 2 T.a_Plan___init__ T.d_Plan___init__ ["self", "blocks"] (spPlanS K T.c_Plan T.c_Block) := ok_planS T
  obtain ⟨ds0, V0_Plan, B0_Plan⟩ := T.D_Plan___init__
  refine T.F_Plan_read.okX sc_Plan_read (fun vs H Q E h => ?_) (fun cdv A outer s H vs Q E hr h => ?_)
  · obtain ⟨x, rfl, _⟩ := h
    rfl
  · obtain ⟨x, rfl, lx, ax, k1, k2⟩ := h
    have nd := sc_Plan_read.nd
    refine ⟨_, (pss_cons (ps_if (pt_cmpR op_eq (pv 1) pe_str (nomark _)) (pss_one (ps_ret (pe_makeV0 (i := 0) T.M_Plan GI_Plan (hr.mono (by first | decide | omega)) rfl (Or.inl rfl) B0_Plan V0_Plan pass0))) pss_nil)
      (pss_one (ps_ret (pe_makeV (i := 0) T.M_Plan GI_Plan (hr.mono (by first | decide | omega)) rfl (Or.inl rfl) T.b_Plan___init__ .nil pass0 (pa_cons (by exact (pe_callS (E := WE fun cls d _ H => E cls d H) G (hr.mono (by first | decide | omega)) (by rfl) T.m__blocks_in T.k__blocks_in T.b__blocks_in (fun σ => passAt (takes_of rfl rfl rfl rfl) σ) (pa_cons (pe_split (pv 1) pe_str) pa_nil))) pa_nil))))), ?_⟩
    have e9 := sizeLine_eq
    have ew : Txt.join nl (wordsS 10 x) = x := wordsS_join (by decide)
    have ln := wordsS_len (s := 10) (x := x)
    refine seqif_go (tst_go ?_)
    refine ⟨_, rfl, rfl, _, rfl, ?_⟩
    rw [show decide (V.str x = V.str (Str.ofString "")) = decide (x = Str.ofString "") from decide_eq_decide.mpr ⟨fun e => by injection e, fun e => by rw [e]⟩]
    refine ifD (fun e => ?_) (fun e => ?_)
    · refine ret_go ?_
      refine ⟨rfl, fun x2 d2 nx nd2 ne => ?_⟩
      refine make_planE (CL := T.c_Lane) (CF := T.c_Form) (a := T.e_Plan___init___0) (bs := []) (ds := []) (.inr ⟨rfl, T.E_Plan___init___0 _⟩) .nil nx nd2 (by decide) fun H2 s2 h2 => ⟨rfl, ?_⟩
      exact k1 [] _ _ (if_pos e) (by rw [e]; rfl) (by decide) (fun d h => nomatch h) s2 h2
    · have due : dueT x = dueL 0 0 (wordsS 10 x) := if_neg e
      dsimp only [tNext]
      refine ret_go ?_
      refine ⟨rfl, _, rfl, ⟨_, rfl⟩, _, _, rfl, rfl, by decide, by omega, fun p np => ?_⟩
      rw [show Txt.split x (Str.ofString "\n") = _ from wordsS_split (s := 10) (by decide) (by decide +kernel)]
      refine ⟨p, wordsS 10 x, rfl, upd_same, wordsS_ne, by omega, fun s hs => ⟨Nat.le_trans (wordsS_short hs) lx, asc_sub ax (wordsS_sub s hs)⟩, fun ds u bs H1 d0 fl bis s1 hu ab => fun x2 d2 nx nd2 ne => ?_, fun n hn H1 d s1 hd => k2 n (due.trans hn) _ d ((same_new np).trans s1) hd⟩
      have l2 := two_lines bis
      rw [fl] at l2
      refine make_plan (.inl hu) ab nx nd2 (by omega) fun H2 s2 h2 => ⟨rfl, ?_⟩
      refine k1 ds _ _ (due.trans d0) ?_ (by omega) bis ((same_new np).trans (s1.trans s2)) h2.e
      unfold planText
      rw [fl]
      exact ew

end
end K09
namespace K09
open PySem PySem.Spec PyProof.Rows L2 Rs
local macro_rules | `(tactic| walk_at "om") => `(tactic| first | omega | (dsimp only; omega))
local macro_rules | `(tactic| walk_at "side") => `(tactic| first | omega | (dsimp only; omega) | decide | (unfold CMul; omega) | (unfold CDiv; omega) | (unfold CPow; omega) | exact wide_div (b := 64) (by omega) (by omega) (by decide) (by decide))
local macro_rules | `(tactic| walk_at "hp") => `(tactic| first | assumption | exact upd_same)
local macro_rules | `(tactic| walk_at "sq") => `(tactic| first | assumption | exact SqL.of (by assumption) | exact SqL.of upd_same)
local macro_rules | `(tactic| walk_at "st") => `(tactic| first
  | refine ⟨_, rfl, ?_⟩
  | (refine ⟨_, _, rfl, rfl, And.intro ?side ?_⟩; (case side => walk_at "side"))
  | refine ⟨_, _, rfl, rfl, ?_⟩
  | (refine' ⟨_, _, _, _, rfl, rfl, SqL.of ?hp, ?atx, ?_⟩; (case hp => walk_at "hp"); (case atx => exact rfl))
  | (refine' ⟨_, _, _, _, rfl, rfl, ?hp, ?atx, ?_⟩; (case hp => walk_at "hp"); (case atx => exact rfl))
  | (refine' ⟨_, _, rfl, Or.inl ?sq, ?_⟩; (case sq => walk_at "sq"))
  | refine Or.inl ⟨_, rfl, ?_⟩
  | refine Or.inr ⟨_, rfl, ?_⟩)
local macro_rules | `(tactic| walk_at "evd") => `(tactic| first
  | exact evd_int
  | exact evd_str
  | exact evd_non
  | exact evd_bl
  | exact evd_nil
  | (refine evd_cons ?_ (fun _ => ?_) <;> walk_at "evd")
  | (refine evd_tup ?_ (Nat.le_of_ble_eq_true rfl); walk_at "evd"))

section
variable {P : Program} {w : World} {K : PySem.W.Frag} {mg : Str → Option Value} {base : Heap}
/-! the law's own reading -/
/-- the text of a form that is not too long -/
def IsFR (s : Str) : Prop := ∃ t q c, FormR t q c ∧ s = formText t q c
def spHasForm : Sp := fun vs H Q _ => ∃ x : Str, vs = [.str x] ∧ x.length ≤ 300 ∧ Asc x ∧ ∀ (b : Bool) H', (b = true ↔ IsFR x) → Same H H' → Q (.bl b) H'
def t_hf (CF CI : Addr) : WX → TS := fun W => tDrop (Rs.tCMethS CF (spReadG CF CI) (WE W) (tC (.ref CF)) (tCons (tVar 0) tNil))
theorem ok_has_form (T : Txt K mg) : FnOk P w K mg base CX0 7 T.a__law_has_form T.d__law_has_form ["_law_word"] spHasForm := by
  have RR : FnR P w K mg base (L2.CX P w) 6 T.a_Form_read (spReadG T.c_Form T.c_InvalidText) := fnR (ok_readG T) T.b_Form_read
  refine T.F__law_has_form.ok sc__law_has_form (fun vs H Q E h => ?_) (fun cdv A outer s H vs Q E hr h => ?_)
  · obtain ⟨x, rfl, _⟩ := h
    rfl
  · obtain ⟨x, rfl, hl, ha, k⟩ := h
    have nd := sc__law_has_form.nd
    refine ⟨_, (pss_cons (ps_set (i := 1) nd rfl (Or.inl rfl) pe_bl)
      (pss_cons (ps_try_only (tb := t_hf T.c_Form T.c_InvalidText) (ts := fun _ _ _ => tAsg (tC (.bl false)) (gName 1)) (Wout := fun _ _ _ _ => False) rfl rfl ⟨rfl, by decide, Or.inl T.m_InvalidText⟩ takes0
        (fun W pn xe tk _ => pss_one (ps_expr (by exact (Rs.pe_cmethT (pe_glob rfl T.m_Form (rel_ref _)) T.R_Form T.G_Form_read RR (hr.mono (by decide)) (fun σ => passAt tk σ) (pa_cons (pv 0) pa_nil)))))
        (fun a oe cls d pn hz hf => pss_one (ps_set (i := 1) nd rfl (Or.inl rfl) (by exact pe_bl))))
      (pss_one (ps_ret (pv 1))))), ?_⟩
    refine ⟨rfl, _, rfl, x, rfl, by omega, ha, fun t q c y dy H1 c1 mt mq mc e s1 hy => ?_, fun no H1 d s1 hd => ?_⟩
    · exact ⟨_, rfl, k true _ ⟨fun _ => ⟨t, q, c, ⟨mt, mq, c1, mc, by rw [← e]; exact hl⟩, e⟩, fun _ => rfl⟩ s1⟩
    · refine ⟨true, T.e_InvalidText, fun _ a ha => ?_, fun q => Bool.noConfusion q⟩
      exact ⟨_, rfl, k false _ ⟨fun z => (nomatch z), fun ⟨t, q, c, r, e⟩ => absurd ⟨t, q, c, r.c1, e⟩ no⟩ (s1.trans (same_new hd))⟩

end
end K09
namespace K09
open PySem PySem.Spec PyProof.Rows L2 Rs
local macro_rules | `(tactic| walk_at "om") => `(tactic| first | omega | (dsimp only; omega))
local macro_rules | `(tactic| walk_at "side") => `(tactic| first | omega | (dsimp only; omega) | decide | (unfold CMul; omega) | (unfold CDiv; omega) | (unfold CPow; omega) | exact wide_div (b := 64) (by omega) (by omega) (by decide) (by decide))
local macro_rules | `(tactic| walk_at "hp") => `(tactic| first | assumption | exact upd_same)
local macro_rules | `(tactic| walk_at "sq") => `(tactic| first | assumption | exact SqL.of (by assumption) | exact SqL.of upd_same)
local macro_rules | `(tactic| walk_at "st") => `(tactic| first
  | refine ⟨_, rfl, ?_⟩
  | (refine ⟨_, _, rfl, rfl, And.intro ?side ?_⟩; (case side => walk_at "side"))
  | refine ⟨_, _, rfl, rfl, ?_⟩
  | (refine' ⟨_, _, _, _, rfl, rfl, SqL.of ?hp, ?atx, ?_⟩; (case hp => walk_at "hp"); (case atx => exact rfl))
  | (refine' ⟨_, _, _, _, rfl, rfl, ?hp, ?atx, ?_⟩; (case hp => walk_at "hp"); (case atx => exact rfl))
  | (refine' ⟨_, _, rfl, Or.inl ?sq, ?_⟩; (case sq => walk_at "sq"))
  | refine Or.inl ⟨_, rfl, ?_⟩
  | refine Or.inr ⟨_, rfl, ?_⟩)
local macro_rules | `(tactic| walk_at "evd") => `(tactic| first
  | exact evd_int
  | exact evd_str
  | exact evd_non
  | exact evd_bl
  | exact evd_nil
  | (refine evd_cons ?_ (fun _ => ?_) <;> walk_at "evd")
  | (refine evd_tup ?_ (Nat.le_of_ble_eq_true rfl); walk_at "evd"))

section
variable {P : Program} {w : World} {K : PySem.W.Frag} {mg : Str → Option Value} {base : Heap}
theorem look1 {f : Str} {v : V} : List.lookup f [(f, v)] = some v := by
  unfold List.lookup
  rw [beq_self_eq_true]
/-- the text of what is read, or the number with which it is refused -/
def spLRead : Sp := fun vs H Q _ => ∃ x : Str, vs = [.str x] ∧ x.length ≤ 300 ∧ Asc x ∧ (dueT x = none → ∀ H', Same H H' → Q (.str x) H') ∧ (∀ n : Nat, dueT x = some n → ∀ H', Same H H' → Q (.int n) H')
def t_suite (K : PySem.W.Frag) (CI CR CF CP : Addr) : Addr → Value → Option Addr → TS := fun a cls d =>
  tAsg (tIf (tAnd (tB (tCB (rIsX K a cls d CI) (tCons (tVar 2) (tCons (tC (.ref CR)) tNil)))) (tNot (tB (tCB (rIsXT K a cls d CI) (tCons (tVar 2) (tCons (tTup (tCons (tC (.ref CF)) (tCons (tC (.ref CP)) tNil))) tNil)))))) (tXf a cls d CI "at" (tVar 2)) (tC (.str "other"))) (gName 1)
def t_body (K : PySem.W.Frag) (CP CB CL CF CI : Addr) : WX → TS := fun W =>
  tAsg (tCB (rStrO CP (spPStr K CP CB CL CF) E0) (tCons (Rs.tCMethS CP (spPReadG K CP CB CL CF CI) (WE W) (tC (.ref CP)) (tCons (tVar 0) tNil)) tNil)) (gName 1)
theorem ok_lread (T : Txt K mg) : FnOk P w K mg base CX0 14 T.a__law_read T.d__law_read ["_law_text"] spLRead := by
  have RR : FnR P w K mg base (L2.CX P w) 9 T.a_Plan_read (spPReadG K T.c_Plan T.c_Block T.c_Lane T.c_Form T.c_InvalidText) := fnR (ok_preadG T) T.b_Plan_read
  have R_pstr : FnR P w K mg base CX0 11 T.a_Plan___str__ (spPStr K T.c_Plan T.c_Block T.c_Lane T.c_Form) := fnR (ok_pstr T) T.b_Plan___str__
  refine T.F__law_read.ok sc__law_read (fun vs H Q E h => ?_) (fun cdv A outer s H vs Q E hr h => ?_)
  · obtain ⟨x, rfl, _⟩ := h
    rfl
  · obtain ⟨x, rfl, hl, ha, k1, k2⟩ := h
    have nd := sc__law_read.nd
    refine ⟨_, pss_cons (ps_set (i := 1) nd rfl (Or.inl rfl) pe_non)
      (pss_cons (ps_try_as (i := 2) (tb := t_body K T.c_Plan T.c_Block T.c_Lane T.c_Form T.c_InvalidText) (ts := t_suite K T.c_InvalidText T.c_RingError T.c_InvalidForm T.c_InvalidPlan) (Wout := fun _ _ _ _ => False) rfl rfl nd rfl rfl ⟨rfl, by decide, Or.inl T.m_InvalidText⟩ takes0
        (fun W pn xe tk _ => pss_one (ps_set (i := 1) nd rfl (Or.inl rfl) (by exact (pe_callTy (call_strO T.M_Plan___str__ R_pstr (hr.mono (by decide)) pass0) (by rfl) T.z_str (by decide +kernel) (pa_cons (Rs.pe_cmethT (pe_glob rfl T.m_Plan (rel_ref _)) T.R_Plan T.G_Plan_read RR (hr.mono (by decide)) (fun σ => passAt tk σ) (pa_cons (pv 0) pa_nil)) pa_nil)))))
        (fun a oe cls d pn hz hf => pss_one (ps_set (i := 1) nd rfl (Or.inl rfl) (by exact (pe_ifExp (PW.pt (pw_and (pt_val (pe_callB (call_isX T.X_InvalidText hz hf) (by rfl) T.z_isinstance (by decide +kernel) (pa_cons (pv 2) (pa_cons (pe_glob rfl T.m_RingError (rel_ref _)) pa_nil))))
          (pw_and1 (pt_not (pt_val (pe_callB (call_isXT T.X_InvalidText hz hf) (by rfl) T.z_isinstance (by decide +kernel) (pa_cons (pv 2) (pa_cons (pe_tup (pa_cons (pe_glob rfl T.m_InvalidForm (rel_ref _)) (pa_cons (pe_glob rfl T.m_InvalidPlan (rel_ref _)) pa_nil))) pa_nil))))))))
          (pe_xf T.f_InvalidText T.n_InvalidText hz hf (pv 2)) pe_str)))))
      (pss_one (ps_ret (pv 1)))), ?_⟩
    refine ⟨rfl, _, rfl, x, rfl, hl, ha, fun ds u H1 d0 e ld bis s1 hp => ?_, fun n hn H1 d' s1 hd => ?_⟩
    · obtain ⟨x2, dx, tp, bs, d2, rfl, hx, _⟩ := id hp
      refine ⟨x2, dx, _, rfl, hx, _, ds, rfl, hp.t, ld, fun H2 s2 => ⟨_, rfl, ?_⟩⟩
      rw [e]
      exact ⟨_, rfl, k1 d0 _ (s1.trans s2)⟩
    · have sd := s1.trans (same_new (o := .xd [("at", .int n)]) hd)
      refine ⟨true, T.e_InvalidText, fun _ a ha => ?_, fun q => Bool.noConfusion q⟩
      refine ⟨_, rfl, _, _, true, d', _, rfl, .own _, rfl, rfl, upd_same, T.kit_InvalidText_RingError, _, rfl, iteT ?_⟩
      refine ⟨_, rfl, szL (Nat.le_of_ble_eq_true rfl), fun tp ntp => ?_⟩
      have hd2 : ∀ o, upd (upd H1 d' (.xd [("at", .int n)])) tp o d' = some (.xd [("at", .int n)]) := fun o => by
        rw [upd_ne (ne_of_none upd_same ntp)]
        exact upd_same
      refine ⟨tp, _, _, false, d', _, rfl, upd_same, .cons (.own _) (.cons (.own _) .nil), rfl, rfl, hd2 _, kitAny_cons T.kit_InvalidText_InvalidForm (fun _ => kitAny_cons T.kit_InvalidText_InvalidPlan (fun _ => kitAny_nil) (fun q => Bool.noConfusion q)) (fun q => Bool.noConfusion q), _, rfl, ?_⟩
      refine ifT rfl ?_
      refine ⟨_, rfl, rfl, rfl, d', _, .int n, rfl, hd2 _, look1, ?_⟩
      exact ⟨_, rfl, k2 n hn _ (sd.trans (same_new ntp))⟩

end
end K09
namespace K09
open PySem PySem.Spec PyProof.Rows L2 Rs
local macro_rules | `(tactic| walk_at "om") => `(tactic| first | omega | (dsimp only; omega))
local macro_rules | `(tactic| walk_at "side") => `(tactic| first | omega | (dsimp only; omega) | decide | (unfold CMul; omega) | (unfold CDiv; omega) | (unfold CPow; omega) | exact wide_div (b := 64) (by omega) (by omega) (by decide) (by decide))
local macro_rules | `(tactic| walk_at "hp") => `(tactic| first | assumption | exact upd_same)
local macro_rules | `(tactic| walk_at "sq") => `(tactic| first | assumption | exact SqL.of (by assumption) | exact SqL.of upd_same)
local macro_rules | `(tactic| walk_at "st") => `(tactic| first
  | refine ⟨_, rfl, ?_⟩
  | (refine ⟨_, _, rfl, rfl, And.intro ?side ?_⟩; (case side => walk_at "side"))
  | refine ⟨_, _, rfl, rfl, ?_⟩
  | (refine' ⟨_, _, _, _, rfl, rfl, SqL.of ?hp, ?atx, ?_⟩; (case hp => walk_at "hp"); (case atx => exact rfl))
  | (refine' ⟨_, _, _, _, rfl, rfl, ?hp, ?atx, ?_⟩; (case hp => walk_at "hp"); (case atx => exact rfl))
  | (refine' ⟨_, _, rfl, Or.inl ?sq, ?_⟩; (case sq => walk_at "sq"))
  | refine Or.inl ⟨_, rfl, ?_⟩
  | refine Or.inr ⟨_, rfl, ?_⟩)
local macro_rules | `(tactic| walk_at "evd") => `(tactic| first
  | exact evd_int
  | exact evd_str
  | exact evd_non
  | exact evd_bl
  | exact evd_nil
  | (refine evd_cons ?_ (fun _ => ?_) <;> walk_at "evd")
  | (refine evd_tup ?_ (Nat.le_of_ble_eq_true rfl); walk_at "evd"))

section
variable {P : Program} {w : World} {K : PySem.W.Frag} {mg : Str → Option Value} {base : Heap}
theorem op_notInTD {X : Cx} {K : PySem.W.Frag} (e : X.K = K) (hu : X.A.units + 65 < cLine) : OpR X (compareOp .NotIn) (rInTD K true) := by
  subst e
  intro pins s σ H x y v u Q I rx ry h
  obtain ⟨d, ds, hd, he, sd, se, q⟩ := h
  obtain ⟨as, r1⟩ := Dp.reads I d x v hd rx
  obtain ⟨bs, r2⟩ := Dp.reads I (.tuple ds) y u he ry
  exact SeqAt.notIn_tuple_reads r2 r1 (SeqAt.canLay_of_shaped se) (SeqAt.canLay_of_shaped sd) (PyProof.Rows.room_in_shaped sd hu) ⟨.bl _, H, I, rfl, q⟩
theorem isR_words {x : Str} : IsR x ↔ ∃ f, wordsS 32 x = [Str.ofString "rounds", f] ∧ IsFR f := by
  constructor
  · rintro ⟨t, q, c, r, rfl⟩
    exact ⟨_, words_of_rounds, t, q, c, r, rfl⟩
  · rintro ⟨f, e, t, q, c, r, rfl⟩
    refine ⟨t, q, c, r, ?_⟩
    have j := wordsS_join (s := 32) (x := x) (y := blank) (by decide)
    rw [e] at j
    rw [← j]
    exact (rounds_join (d := ⟨t, q, c, []⟩)).symm
theorem isL_words {x : Str} : IsL x ↔ ∃ w s f d, wordsS 32 x = [w, s, f, d] ∧ w ∈ ways ∧ s ∈ signs ∧ d ∈ deeds ∧ IsFR f := by
  constructor
  · rintro ⟨l, i, rfl⟩
    exact ⟨_, _, _, _, words_of_lane i, i.w, i.s, i.d, l.t, l.q, l.c, i.r, rfl⟩
  · rintro ⟨w, s, f, d, e, hw, hs, hd, t, q, c, r, rfl⟩
    refine ⟨⟨w, s, t, q, c, d⟩, ⟨hw, hs, hd, r⟩, ?_⟩
    have j := wordsS_join (s := 32) (x := x) (y := blank) (by decide)
    rw [e] at j
    exact j.symm
theorem strOk_a {x : Str} (h : Asc x) : PyData.strOk x = true := by
  unfold PyData.strOk
  rw [Array.all_eq_true']
  intro c hc
  have := h c (Array.mem_toList_iff.mpr hc)
  exact decide_eq_true (by omega)
theorem shaped_s {x : Str} (h : Asc x) : SeqAt.shaped (.str x) = true := okD.shaped (k := 0) ⟨strOk_a h, Nat.le_refl _⟩ (by decide)
theorem shaped_2 {a b : Str} (ha : Asc a) (hb : Asc b) : SeqAt.shaped (.tuple [.str a, .str b]) = true := (okD.tuple (k := 0) (ds := [.str a, .str b]) fun d hd => by
  simp only [List.mem_cons, List.not_mem_nil, or_false] at hd
  rcases hd with rfl | rfl
  · exact ⟨strOk_a ha, Nat.le_refl _⟩
  · exact ⟨strOk_a hb, Nat.le_refl _⟩).shaped (by decide)
theorem eqv_or {a b w : Str} : (PyData.eqv (.str a) (.str w) || (PyData.eqv (.str b) (.str w) || false)) = decide (w ∈ [a, b]) := by
  rw [Bool.eq_iff_iff]
  rw [str_eqv, str_eqv, Bool.or_false, Bool.or_eq_true, decide_eq_true_iff, decide_eq_true_iff, decide_eq_true_iff, List.mem_cons, List.mem_cons, eq_comm (a := a), eq_comm (a := b)]
  simp only [List.not_mem_nil, or_false]
theorem ifD2 {p : Prop} [Decidable p] {a b : Prop} (h1 : ¬ p → a) (h2 : p → b) : if (!decide p) = true then a else b := by
  by_cases h : p
  · rw [decide_eq_true h]
    exact h2 h
  · rw [decide_eq_false h]
    exact h1 h
def sortS (x : Str) : Nat → Str
  | 1 => Str.ofString "rounds"
  | 2 => Str.ofString "lane"
  | _ => Str.ofString "none"
def spSort : Sp := fun vs H Q _ => ∃ x : Str, vs = [.str x] ∧ x.length ≤ 300 ∧ Asc x ∧ ∀ H', Same H H' → Q (.str (sortS x (sortL x))) H'
theorem ok_sort (T : Txt K mg) : FnOk P w K mg base CX0 8 T.a__law_sort T.d__law_sort ["_law_line"] spSort := by
  have G__law_has_form : FnOk P w K mg base CX0 7 T.a__law_has_form T.d__law_has_form ["_law_word"] spHasForm := ok_has_form T
  refine T.F__law_sort.ok sc__law_sort (fun vs H Q E h => ?_) (fun cdv A outer s H vs Q E hr h => ?_)
  · obtain ⟨x, rfl, _⟩ := h
    rfl
  · obtain ⟨x, rfl, lx, ax, k⟩ := h
    have nd := sc__law_sort.nd
    refine ⟨_, (pss_cons (ps_set (i := 1) nd rfl (Or.inl rfl) (pe_split (pv 0) pe_str))
    (pss_cons (ps_if (PW.pt (pw_and (pt_cmpR op_eq (pe_callB call_len_seq (by rfl) T.z_len (by decide +kernel) (pa_cons (pv 1) pa_nil)) pe_int (nomark _)) (pw_and (pt_cmpR op_eq (pe_ix ix_seq (pv 1) pe_int (fun _ _ => rfl)) pe_str (nomark _)) (pw_and1 (pt_val (pe_call G__law_has_form (hr.mono (by first | decide | omega)) (by rfl) T.m__law_has_form T.k__law_has_form T.b__law_has_form .nil pass0 (pa_cons (pe_ix ix_seq (pv 1) pe_int (fun _ _ => rfl)) pa_nil))))))) (pss_one (ps_ret pe_str)) pss_nil)
    (pss_cons (ps_if (PW.pt (pw_or (pt_cmpR op_ne (pe_callB call_len_seq (by rfl) T.z_len (by decide +kernel) (pa_cons (pv 1) pa_nil)) pe_int (nomark _)) (pw_or (pt_cmpR (op_notInTD rfl (un65 hr)) (pe_ix ix_seq (pv 1) pe_int (fun _ _ => rfl)) (pe_tup (pa_cons pe_str (pa_cons pe_str pa_nil))) (by rfl)) (pw_or1 (pt_cmpR (op_notInTD rfl (un65 hr)) (pe_ix ix_seq (pv 1) pe_int (fun _ _ => rfl)) (pe_tup (pa_cons pe_str (pa_cons pe_str pa_nil))) (by rfl)))))) (pss_one (ps_ret pe_str)) pss_nil)
    (pss_one (ps_ret (pe_ifExp (PW.pt (pw_and (pt_cmpR (op_inTD rfl (un65 hr)) (pe_ix ix_seq (pv 1) pe_int (fun _ _ => rfl)) (pe_tup (pa_cons pe_str (pa_cons pe_str pa_nil))) (by rfl)) (pw_and1 (pt_val (pe_call G__law_has_form (hr.mono (by first | decide | omega)) (by rfl) T.m__law_has_form T.k__law_has_form T.b__law_has_form .nil pass0 (pa_cons (pe_ix ix_seq (pv 1) pe_int (fun _ _ => rfl)) pa_nil)))))) pe_str pe_str)))))), ?_⟩
    have e9 := sizeLine_eq
    have ln := wordsS_len (s := 32) (x := x)
    refine asg_go ?_
    refine ⟨_, rfl, ⟨_, rfl⟩, _, _, rfl, rfl, by decide, by omega, fun p np => ?_⟩
    rw [show Txt.split x (Str.ofString " ") = _ from wordsS_split blank_tl (by decide +kernel)]
    dsimp only [gName]
    have s0 := same_new (H := H) (o := .lst ((wordsS 32 x).map V.str)) np
    have short := fun (w : Str) (h : w ∈ wordsS 32 x) => (⟨Nat.le_trans (wordsS_short h) lx, asc_sub ax (wordsS_sub w h)⟩ : w.length ≤ 300 ∧ Asc w)
    refine seqif_go ?_
    have dec2 : ∀ {n m : Nat}, decide (V.int (n : Int) = V.int (m : Int)) = decide (n = m) := fun {n m} => decide_eq_decide.mpr ⟨fun z => by injection z with z; omega, fun z => by rw [z]⟩
    refine ⟨_, rfl, p, _, rfl, .inl (SqL.of upd_same), rfl, _, rfl, ?_⟩
    rw [List.length_map]
    by_cases h2 : (wordsS 32 x).length = 2
    · obtain ⟨w, f, e⟩ : ∃ w f, wordsS 32 x = [w, f] := by
        cases h : wordsS 32 x with
        | nil => rw [h] at h2; cases h2
        | cons a r =>
        cases r with
        | nil => rw [h] at h2; cases h2
        | cons b r =>
        cases r with
        | nil => exact ⟨a, b, rfl⟩
        | cons _ _ => rw [h] at h2; simp at h2
      rw [e] at s0 ⊢
      refine ifT rfl ?_
      refine ⟨_, rfl, .inl ⟨p, _, 0, .str w, rfl, rfl, SqL.of upd_same, rfl, ?_⟩⟩
      have no4 : ∀ H1, Same (upd H p (.lst ([w, f].map V.str))) H1 → ¬ IsR x → Q (.str (sortS x (sortL x))) H1 := fun H1 s1 _ => k H1 (s0.trans s1)
      have nL : ¬ IsL x := fun z => by
        obtain ⟨w', s', f', d', e', _⟩ := isL_words.mp z
        rw [e] at e'
        cases e'
      have sf := short f (by rw [e]; simp)
      refine ⟨rfl, _, rfl, ?_⟩
      by_cases hw : w = Str.ofString "rounds"
      · refine ifT (decide_eq_true (by rw [hw])) ?_
        refine ⟨_, rfl, .inl ⟨p, _, 1, .str f, rfl, rfl, SqL.of upd_same, rfl, ?_⟩⟩
        refine ⟨f, rfl, sf.1, sf.2, fun b H1 hb s1 => ?_⟩
        cases b with
        | true =>
          have r : IsR x := isR_words.mpr ⟨f, by rw [e, hw], hb.mp rfl⟩
          have kk := k H1 (s0.trans s1)
          rw [sort_R r] at kk
          exact ⟨_, rfl, kk⟩
        | false =>
          have nR : ¬ IsR x := fun z => by
            obtain ⟨f', e', g⟩ := isR_words.mp z
            rw [e] at e'
            injection e' with _ e'
            injection e' with e' _
            rw [← e'] at g
            exact Bool.noConfusion (hb.mpr g)
          have kk := k H1 (s0.trans s1)
          rw [sort_0 nR nL] at kk
          refine ⟨_, rfl, ?_⟩
          dsimp only [tNext]
          refine seqif_go (or_go (tst_go ?_))
          exact ⟨_, rfl, p, _, rfl, .inl (SqL.of (s1 _ _ upd_same)), rfl, _, rfl, ifT rfl kk⟩
      · have nR : ¬ IsR x := fun z => by
          obtain ⟨f', e', g⟩ := isR_words.mp z
          rw [e] at e'
          injection e' with e' _
          exact hw e'
        have kk := k _ s0
        rw [sort_0 nR nL] at kk
        refine ifF (decide_eq_false fun z => hw (by injection z)) ?_
        dsimp only [tNext]
        refine seqif_go (or_go (tst_go ?_))
        exact ⟨_, rfl, p, _, rfl, .inl (SqL.of upd_same), rfl, _, rfl, ifT rfl kk⟩
    · have nR : ¬ IsR x := fun z => by
        obtain ⟨f, e, _⟩ := isR_words.mp z
        rw [e] at h2
        exact h2 rfl
      refine ifF (decide_eq_false fun z => h2 (by injection z with z; omega)) ?_
      dsimp only [tNext]
      by_cases h4 : (wordsS 32 x).length = 4
      · obtain ⟨w, sg, f, d, e⟩ : ∃ w sg f d, wordsS 32 x = [w, sg, f, d] := by
          cases h : wordsS 32 x with
          | nil => rw [h] at h4; cases h4
          | cons a r =>
          cases r with
          | nil => rw [h] at h4; cases h4
          | cons b r =>
          cases r with
          | nil => rw [h] at h4; cases h4
          | cons c r =>
          cases r with
          | nil => rw [h] at h4; cases h4
          | cons d r =>
          cases r with
          | nil => exact ⟨a, b, c, d, rfl⟩
          | cons _ _ => rw [h] at h4; simp at h4
        have nope : ¬ IsL x → ∀ H1, Same (upd H p (.lst ((wordsS 32 x).map V.str))) H1 → Q (.str (Str.ofString "none")) H1 := fun nL H1 s1 => by
          have kk := k H1 (s0.trans s1)
          rw [sort_0 nR nL] at kk
          exact kk
        have isL : IsL x ↔ w ∈ ways ∧ sg ∈ signs ∧ d ∈ deeds ∧ IsFR f := by
          rw [isL_words, e]
          constructor
          · rintro ⟨w', s', f', d', e', a, b, c, g⟩
            injection e' with e1 e'
            injection e' with e2 e'
            injection e' with e3 e'
            injection e' with e4 e'
            rw [e1, e2, e3, e4]
            exact ⟨a, b, c, g⟩
          · rintro ⟨a, b, c, g⟩
            exact ⟨_, _, _, _, rfl, a, b, c, g⟩
        rw [e] at s0 nope ⊢
        have sw := short w (by rw [e]; simp)
        have ss := short sg (by rw [e]; simp)
        have sf := short f (by rw [e]; simp)
        have sd := short d (by rw [e]; simp)
        refine seqif_go (or_go (tst_go ?_))
        refine ⟨_, rfl, p, _, rfl, .inl (SqL.of upd_same), rfl, _, rfl, ifF rfl ?_⟩
        refine or_go (tst_go ?_)
        refine ⟨_, rfl, .inl ⟨p, _, 0, .str w, rfl, rfl, SqL.of upd_same, rfl, ?_⟩⟩
        refine ⟨szL (Nat.le_of_ble_eq_true rfl), fun p2 np2 => ⟨.str w, [.str (Str.ofString "up"), .str (Str.ofString "down")], .str _, .tup (SqT.of upd_same) (.cons (.str _) (.cons (.str _) .nil)), shaped_s sw.2, shaped_2 (by unfold Asc; decide) (by unfold Asc; decide), ?_⟩⟩
        refine ⟨_, rfl, ?_⟩
        show if (!(PyData.eqv (.str (Str.ofString "up")) (.str w) || (PyData.eqv (.str (Str.ofString "down")) (.str w) || false))) = true then _ else _
        rw [eqv_or]
        have t1 := same_new (H := upd H p (.lst ([w, sg, f, d].map V.str))) (o := .tup [.str (Str.ofString "up"), .str (Str.ofString "down")]) np2
        refine ifD2 (fun hw => ?_) (fun hw => ?_)
        · exact nope (fun z => hw (isL.mp z).1) _ t1
        refine tst_go ?_
        refine ⟨_, rfl, .inl ⟨p, _, 1, .str sg, rfl, rfl, SqL.of (t1 _ _ upd_same), rfl, ?_⟩⟩
        refine ⟨szL (Nat.le_of_ble_eq_true rfl), fun p3 np3 => ⟨.str sg, [.str (Str.ofString "+"), .str (Str.ofString "-")], .str _, .tup (SqT.of upd_same) (.cons (.str _) (.cons (.str _) .nil)), shaped_s ss.2, shaped_2 (by unfold Asc; decide) (by unfold Asc; decide), ?_⟩⟩
        refine ⟨_, rfl, ?_⟩
        show if (!(PyData.eqv (.str (Str.ofString "+")) (.str sg) || (PyData.eqv (.str (Str.ofString "-")) (.str sg) || false))) = true then _ else _
        rw [eqv_or]
        have t2 := t1.trans (same_new (o := .tup [.str (Str.ofString "+"), .str (Str.ofString "-")]) np3)
        refine ifD2 (fun hs => ?_) (fun hs => ?_)
        · exact nope (fun z => hs (isL.mp z).2.1) _ t2
        dsimp only [tNext]
        refine ret_go ?_
        refine ⟨_, rfl, .inl ⟨p, _, 3, .str d, rfl, rfl, SqL.of (t2 _ _ upd_same), rfl, ?_⟩⟩
        refine ⟨szL (Nat.le_of_ble_eq_true rfl), fun p4 np4 => ⟨.str d, [.str (Str.ofString "add"), .str (Str.ofString "put")], .str _, .tup (SqT.of upd_same) (.cons (.str _) (.cons (.str _) .nil)), shaped_s sd.2, shaped_2 (by unfold Asc; decide) (by unfold Asc; decide), ?_⟩⟩
        refine ⟨_, rfl, ?_⟩
        show if (PyData.eqv (.str (Str.ofString "add")) (.str d) || (PyData.eqv (.str (Str.ofString "put")) (.str d) || false)) = true then _ else _
        rw [eqv_or]
        have t3 := t2.trans (same_new (o := .tup [.str (Str.ofString "add"), .str (Str.ofString "put")]) np4)
        refine ifD (fun hd => ?_) (fun hd => ?_)
        · refine ⟨_, rfl, .inl ⟨p, _, 2, .str f, rfl, rfl, SqL.of (t3 _ _ upd_same), rfl, ?_⟩⟩
          refine ⟨f, rfl, sf.1, sf.2, fun b H1 hb s1 => ⟨_, rfl, ?_⟩⟩
          have t4 := t3.trans s1
          cases b with
          | true =>
            have yes := isL.mpr ⟨hw, hs, hd, hb.mp rfl⟩
            have kk := k H1 (s0.trans t4)
            rw [sort_L yes] at kk
            exact ifT rfl kk
          | false => exact ifF rfl (nope (fun z => Bool.noConfusion (hb.mpr (isL.mp z).2.2.2)) _ t4)
        · exact nope (fun z => hd (isL.mp z).2.2.1) _ t3
      · have nL : ¬ IsL x := fun z => by
          obtain ⟨_, _, _, _, e, _⟩ := isL_words.mp z
          rw [e] at h4
          exact h4 rfl
        have kk := k _ s0
        rw [sort_0 nR nL] at kk
        refine seqif_go (or_go (tst_go ?_))
        refine ⟨_, rfl, p, _, rfl, .inl (SqL.of upd_same), rfl, _, rfl, ifT ?_ kk⟩
        rw [List.length_map, decide_eq_false (fun z => h4 (by injection z with z; omega))]
        rfl

end
end K09
namespace K09
open PySem PySem.Spec PyProof.Rows L2 Rs
local macro_rules | `(tactic| walk_at "om") => `(tactic| first | omega | (dsimp only; omega))
local macro_rules | `(tactic| walk_at "side") => `(tactic| first | omega | (dsimp only; omega) | decide | (unfold CMul; omega) | (unfold CDiv; omega) | (unfold CPow; omega) | exact wide_div (b := 64) (by omega) (by omega) (by decide) (by decide))
local macro_rules | `(tactic| walk_at "hp") => `(tactic| first | assumption | exact upd_same)
local macro_rules | `(tactic| walk_at "sq") => `(tactic| first | assumption | exact SqL.of (by assumption) | exact SqL.of upd_same)
local macro_rules | `(tactic| walk_at "st") => `(tactic| first
  | refine ⟨_, rfl, ?_⟩
  | (refine ⟨_, _, rfl, rfl, And.intro ?side ?_⟩; (case side => walk_at "side"))
  | refine ⟨_, _, rfl, rfl, ?_⟩
  | (refine' ⟨_, _, _, _, rfl, rfl, SqL.of ?hp, ?atx, ?_⟩; (case hp => walk_at "hp"); (case atx => exact rfl))
  | (refine' ⟨_, _, _, _, rfl, rfl, ?hp, ?atx, ?_⟩; (case hp => walk_at "hp"); (case atx => exact rfl))
  | (refine' ⟨_, _, rfl, Or.inl ?sq, ?_⟩; (case sq => walk_at "sq"))
  | refine Or.inl ⟨_, rfl, ?_⟩
  | refine Or.inr ⟨_, rfl, ?_⟩)
local macro_rules | `(tactic| walk_at "evd") => `(tactic| first
  | exact evd_int
  | exact evd_str
  | exact evd_non
  | exact evd_bl
  | exact evd_nil
  | (refine evd_cons ?_ (fun _ => ?_) <;> walk_at "evd")
  | (refine evd_tup ?_ (Nat.le_of_ble_eq_true rfl); walk_at "evd"))

section
variable {P : Program} {w : World} {K : PySem.W.Frag} {mg : Str → Option Value} {base : Heap}
theorem asc_form {t q c : Int} : Asc (formText t q c) := fun x hx => by
  by_cases e : c = 1
  · have e1 : TL.tl (formText t q c) = TL.tl (upperS t q) := congrArg TL.tl (if_pos e)
    rw [e1] at hx
    have := upper_signs x hx
    omega
  · rw [over_tl e] at hx
    rcases List.mem_cons.mp hx with h | h
    · omega
    · rcases List.mem_append.mp h with h | h
      · have := upper_signs x h
        omega
      · rcases List.mem_cons.mp h with h | h
        · omega
        · rcases List.mem_cons.mp h with h | h
          · omega
          · rw [← nS_tl] at h
            have := nS_signs x h
            omega

/-! lines out, in, twice, exchanged: how long, and of which signs -/
theorem cut_tl {x : Str} {lo hi : Option Int} : TL.tl (cutS x lo hi) = ((TL.tl x).drop (HT.sIx x.length 0 lo)).take (HT.sIx x.length x.length hi - HT.sIx x.length 0 lo) := rfl
theorem cutS_to {x : Str} {i : Nat} : TL.tl (cutS x none (some (i : Nat))) = (TL.tl x).take i := by
  rw [cut_tl, HT.sIx_none, HT.sIx_nat, List.drop_zero, Nat.sub_zero]
  have l : (TL.tl x).length = x.length := tl_length x
  rw [← l, ← List.take_eq_take_min]
theorem cutS_asc {x : Str} {lo hi : Option Int} (h : Asc x) : Asc (cutS x lo hi) := asc_sub h fun c hc => by
  rw [cut_tl] at hc
  exact List.mem_of_mem_drop (List.mem_of_mem_take hc)
theorem asc_app {x y : Str} (h : Asc x) (g : Asc y) : Asc (x ++ y) := fun c hc => by
  rw [TL.tl_append] at hc
  exact (List.mem_append.mp hc).elim (h c) (g c)
theorem cut_from_le {x : Str} {i : Int} (h : 0 ≤ i) : (cutS x (some i) none).length ≤ x.length - i.toNat := by
  obtain ⟨n, rfl⟩ := Int.eq_ofNat_of_zero_le h
  have l : (TL.tl x).length = x.length := tl_length x
  rw [← tl_length, cut_tl, HT.sIx_none, HT.sIx_nat, List.length_take, List.length_drop, l]
  show _ ≤ x.length - n
  omega
theorem cut_to_le {x : Str} {j : Nat} : (cutS x none (some (j : Int))).length ≤ j := by
  rw [← tl_length, cutS_to, List.length_take]
  omega
theorem cut_lto {ws : List Str} {j : Nat} : cutV (ws.map V.str) none (some (j : Int)) = (ws.take j).map V.str := by
  unfold cutV
  rw [HT.sIx_none, HT.sIx_nat, List.drop_zero, Nat.sub_zero, ← List.take_eq_take_min, List.map_take]
theorem cut_lfrom {ws : List Str} {j : Nat} : cutV (ws.map V.str) (some (j : Int)) none = (ws.drop j).map V.str := by
  unfold cutV
  rw [HT.sIx_none, HT.sIx_nat, List.length_map]
  have e : (ws.map V.str).drop (min j ws.length) = (ws.drop j).map V.str := by
    rw [List.map_drop]
    by_cases h : j ≤ ws.length
    · rw [Nat.min_eq_left h]
    · rw [Nat.min_eq_right (by omega), List.drop_eq_nil_of_le (by rw [List.length_map]; exact Nat.le_refl _), List.drop_eq_nil_of_le (by rw [List.length_map]; omega)]
  rw [e, List.take_of_length_le (by rw [List.length_map, List.length_drop]; omega)]
theorem cut_lmid {ws : List Str} {j : Nat} (h : j ≤ ws.length) : cutV (ws.map V.str) (some (j : Int)) (some ((j : Int) + 2)) = ((ws.drop j).take 2).map V.str := by
  unfold cutV
  rw [show (j : Int) + 2 = ((j + 2 : Nat) : Int) from rfl, HT.sIx_nat, HT.sIx_nat, List.length_map, Nat.min_eq_left h, List.map_take, List.map_drop]
  by_cases g : j + 2 ≤ ws.length
  · rw [Nat.min_eq_left g, Nat.add_sub_cancel_left]
  · rw [Nat.min_eq_right (by omega), List.take_of_length_le (by rw [List.length_drop, List.length_map]; exact Nat.le_refl _), List.take_of_length_le (by rw [List.length_drop, List.length_map]; omega)]
/-- signs, and one for each line's end -/
def lsum (xs : List Str) : Nat := (xs.map fun x => x.length).sum + xs.length
theorem lsum_app {xs ys : List Str} : lsum (xs ++ ys) = lsum xs + lsum ys := by
  unfold lsum
  rw [List.map_append, List.sum_append, List.length_append]
  omega
theorem lsum_cut (n : Nat) (xs : List Str) : lsum (xs.take n) + lsum (xs.drop n) = lsum xs := by
  rw [← lsum_app, List.take_append_drop]
theorem lsum_drop (n : Nat) (xs : List Str) : lsum (xs.drop n) ≤ lsum xs := by
  have := lsum_cut n xs
  omega
theorem lsum_take (n : Nat) (xs : List Str) : lsum (xs.take n) ≤ lsum xs := by
  have := lsum_cut n xs
  omega
theorem lsum_rev : ∀ {xs : List Str}, lsum xs.reverse = lsum xs
  | [] => rfl
  | x :: xs => by
    rw [List.reverse_cons, lsum_app, lsum_rev (xs := xs), Nat.add_comm]
    exact (lsum_app (xs := [x]) (ys := xs)).symm
theorem lsum_one {x : Str} : lsum [x] = x.length + 1 := rfl
theorem lsum_len (xs : List Str) : xs.length ≤ lsum xs := Nat.le_add_left _ _
theorem lsum_words {s : Nat} {x : Str} : lsum (wordsS s x) = x.length + 1 := wordsS_len
theorem join_lsum {xs : List Str} : (Txt.join nl xs).length ≤ lsum xs := by
  have h := join_len (y := nl) (xs := xs)
  have e : nl.length = 1 := by decide
  rw [e, Nat.mul_one] at h
  exact h
theorem ascL_join {S : List Nat} (hS : ∀ c ∈ S, c < 128) : ∀ {ps : List (List Nat)}, (∀ p ∈ ps, ∀ c ∈ p, c < 128) → ∀ c ∈ TL.joinL S ps, c < 128
  | [], _, c, h => by cases h
  | [p], h, c, m => h p (List.mem_cons_self ..) c m
  | p :: q :: r, h, c, m => by
    have m : c ∈ p ++ (S ++ TL.joinL S (q :: r)) := m
    rcases List.mem_append.mp m with m | m
    · exact h p (List.mem_cons_self ..) c m
    · rcases List.mem_append.mp m with m | m
      · exact hS c m
      · exact ascL_join hS (fun z hz => h z (List.mem_cons_of_mem _ hz)) c m
theorem asc_join {y : Str} {xs : List Str} (hy : Asc y) (h : ∀ x ∈ xs, Asc x) : Asc (Txt.join y xs) := by
  intro c hc
  rw [TL.join_eq, TL.tl_join] at hc
  refine ascL_join hy (fun p hp => ?_) c hc
  obtain ⟨x, hx, rfl⟩ := List.mem_map.mp hp
  exact h x hx
theorem asc_nl : Asc nl := by unfold Asc; decide
theorem asc_words {s : Nat} {x : Str} (h : Asc x) : ∀ w ∈ wordsS s x, Asc w := fun w hw => asc_sub h (wordsS_sub w hw)
theorem mem_cut {ws : List Str} {w : Str} {i j k : Nat} (h : w ∈ (ws.take i) ∨ w ∈ (ws.drop j) ∨ w ∈ ((ws.drop k).take 2).reverse) : w ∈ ws := by
  rcases h with h | h | h
  · exact List.mem_of_mem_take h
  · exact List.mem_of_mem_drop h
  · exact List.mem_of_mem_drop (List.mem_of_mem_take (List.mem_reverse.mp h))
def oddL : List Str := [Str.ofString "rounds n", Str.ofString "up - 0 add", Str.ofString "down + (n)/2 put", Str.ofString "", Str.ofString "rounds", Str.ofString "up 0 add", Str.ofString "rounds n n", Str.ofString "up - 1n add", Str.ofString "Up - 0 add"]
theorem odd_ok : ∀ s ∈ oddL, s.length ≤ 16 ∧ (TL.tl s).all (fun c => decide (c < 128)) = true := by decide +kernel
theorem asc_all {s : Str} (h : (TL.tl s).all (fun c => decide (c < 128)) = true) : Asc s := fun c hc => of_decide_eq_true (List.all_eq_true.mp h c hc)
def tinyL : List Str := [Str.ofString "", Str.ofString " ", Str.ofString "\n", Str.ofString "n", Str.ofString "+"]
theorem tiny_ok : ∀ s ∈ tinyL, s.length ≤ 1 ∧ (TL.tl s).all (fun c => decide (c < 128)) = true := by decide +kernel
/-! a drawn plan's own text -/
theorem asc_lit {s : String} (h : (TL.tl (Str.ofString s)).all (fun c => decide (c < 128)) = true) : Asc (Str.ofString s) := asc_all h
theorem asc_rounds {d : BD} : Asc (roundsText d) := asc_app (asc_lit (by decide)) asc_form
theorem asc_in {ys : List Str} (h : ys.all (fun s => (TL.tl s).all fun c => decide (c < 128)) = true) {s : Str} (m : s ∈ ys) : Asc s := asc_all (List.all_eq_true.mp h s m)
theorem asc_lane {l : LD} (i : LI l) : Asc (laneText l) := by
  have b : Asc blank := by unfold Asc; decide
  rw [lane_eq]
  exact asc_app (asc_in (by decide) i.w) (asc_app b (asc_app (asc_in (by decide) i.s) (asc_app b (asc_app asc_form (asc_app b (asc_in (by decide) i.d))))))
theorem asc_plan {ds : List BD} (h : ∀ d ∈ ds, BI d) : Asc (planText ds) := by
  refine asc_join asc_nl fun x hx => ?_
  obtain ⟨d, hd, hx⟩ := List.mem_flatMap.mp hx
  rcases List.mem_cons.mp hx with e | hx
  · rw [e]
    exact asc_rounds
  · obtain ⟨l, hl, rfl⟩ := List.mem_map.mp hx
    exact asc_lane ((h d hd).li l hl)
theorem len_in {n : Nat} {ys : List Str} (h : ys.all (fun s => decide (s.length ≤ n)) = true) {s : Str} (m : s ∈ ys) : s.length ≤ n := of_decide_eq_true (List.all_eq_true.mp h s m)
theorem laneW_len {l : LD} (i : LW l) : (laneText l).length ≤ 20 := by
  have a := len_in (n := 4) (by decide) i.w
  have b := len_in (n := 1) (by decide) i.s
  have c := len_in (n := 3) (by decide) i.d
  have d := i.len
  have e : blank.length = 1 := by decide
  rw [lane_eq]
  simp only [Str.length_append]
  omega
theorem blockW_sum {d : BD} (i : BW d) : lsum (blockLines d) ≤ 59 := by
  have a : (roundsText d).length ≤ 16 := by
    have a := i.b.len
    have b : (Str.ofString "rounds ").length = 7 := by decide
    unfold roundsText
    rw [Str.length_append]
    omega
  have b := sum_le (m := 20) (xs := d.ls.map laneText) fun x hx => by
    obtain ⟨l, hl, rfl⟩ := List.mem_map.mp hx
    exact laneW_len (i.lw l hl)
  have c := i.l2
  rw [List.length_map] at b
  unfold lsum blockLines
  rw [List.map_cons, List.sum_cons, List.length_cons, List.length_map]
  omega
theorem planW_sum : ∀ {ds : List BD}, (∀ d ∈ ds, BW d) → lsum (ds.flatMap blockLines) ≤ ds.length * 59
  | [], _ => Nat.le_refl _
  | d :: ds, h => by
    have a := blockW_sum (h d (List.mem_cons_self ..))
    have b := planW_sum (ds := ds) fun z hz => h z (List.mem_cons_of_mem _ hz)
    rw [List.flatMap_cons, lsum_app, List.length_cons, Nat.succ_mul]
    omega
theorem planW_len {ds : List BD} (h : ∀ d ∈ ds, BW d) : (planText ds).length ≤ ds.length * 59 := Nat.le_trans join_lsum (planW_sum h)
theorem due_lanes {ls : List LD} (h : ∀ l ∈ ls, LI l) {R : List Str} : ∀ {i : Nat}, dueL 2 i (ls.map laneText ++ R) = dueL 2 (i + ls.length) R := by
  induction ls with
  | nil => intro i; rfl
  | cons l ls ih =>
    intro i
    have e : sortL (laneText l) = 2 := sort_L ⟨l, h l (List.mem_cons_self ..), rfl⟩
    rw [List.map_cons, List.cons_append, due_go (by rw [e]; simp), e, ih (fun z hz => h z (List.mem_cons_of_mem _ hz)), List.length_cons]
    congr 1
    omega
theorem due_plan : ∀ {ds : List BD} {b i : Nat}, (∀ d ∈ ds, BI d) → b ≠ 1 → dueL b i (ds.flatMap blockLines) = none
  | [], b, i, _, n => if_neg n
  | d :: ds, b, i, h, n => by
    have di := h d (List.mem_cons_self ..)
    have e : sortL (roundsText d) = 1 := sort_R ⟨d.t, d.q, d.c, di.r, rfl⟩
    rw [List.flatMap_cons]
    unfold blockLines
    rw [List.cons_append, due_go (by rw [e]; simp [n]), e]
    have l0 := di.l0
    have li := di.li
    cases hl : d.ls with
    | nil => rw [hl] at l0; cases l0
    | cons l ls =>
      rw [hl] at li
      have e2 : sortL (laneText l) = 2 := sort_L ⟨l, li l (List.mem_cons_self ..), rfl⟩
      rw [List.map_cons, List.cons_append, due_go (by rw [e2]; simp), e2, due_lanes fun z hz => li z (List.mem_cons_of_mem _ hz)]
      exact due_plan (ds := ds) (fun z hz => h z (List.mem_cons_of_mem _ hz)) (by decide)
theorem due_own {ds : List BD} (h : ∀ d ∈ ds, BI d) : dueT (planText ds) = none := by
  unfold dueT
  split
  · rfl
  · rename_i e
    by_cases ne : ds = []
    · exact absurd (by rw [ne]; rfl) e
    · rw [← wordsS_split (s := 10) (y := nl) (by decide) (by decide +kernel), plan_split h ne]
      exact due_plan h (by decide)

end
end K09
namespace K09
open PySem PySem.Spec PyProof.Rows L2 Rs
local macro_rules | `(tactic| walk_at "om") => `(tactic| first | omega | (dsimp only; omega))
local macro_rules | `(tactic| walk_at "side") => `(tactic| first | omega | (dsimp only; omega) | decide | (unfold CMul; omega) | (unfold CDiv; omega) | (unfold CPow; omega) | exact wide_div (b := 64) (by omega) (by omega) (by decide) (by decide))
local macro_rules | `(tactic| walk_at "hp") => `(tactic| first | assumption | exact upd_same)
local macro_rules | `(tactic| walk_at "sq") => `(tactic| first | assumption | exact SqL.of (by assumption) | exact SqL.of upd_same)
local macro_rules | `(tactic| walk_at "st") => `(tactic| first
  | refine ⟨_, rfl, ?_⟩
  | (refine ⟨_, _, rfl, rfl, And.intro ?side ?_⟩; (case side => walk_at "side"))
  | refine ⟨_, _, rfl, rfl, ?_⟩
  | (refine' ⟨_, _, _, _, rfl, rfl, SqL.of ?hp, ?atx, ?_⟩; (case hp => walk_at "hp"); (case atx => exact rfl))
  | (refine' ⟨_, _, _, _, rfl, rfl, ?hp, ?atx, ?_⟩; (case hp => walk_at "hp"); (case atx => exact rfl))
  | (refine' ⟨_, _, rfl, Or.inl ?sq, ?_⟩; (case sq => walk_at "sq"))
  | refine Or.inl ⟨_, rfl, ?_⟩
  | refine Or.inr ⟨_, rfl, ?_⟩)
local macro_rules | `(tactic| walk_at "evd") => `(tactic| first
  | exact evd_int
  | exact evd_str
  | exact evd_non
  | exact evd_bl
  | exact evd_nil
  | (refine evd_cons ?_ (fun _ => ?_) <;> walk_at "evd")
  | (refine evd_tup ?_ (Nat.le_of_ble_eq_true rfl); walk_at "evd"))

section
variable {P : Program} {w : World} {K : PySem.W.Frag} {mg : Str → Option Value} {base : Heap}
/-! the law's own number of a text -/
noncomputable def dueI (x : Str) : Int := match dueT x with
  | some n => (n : Int)
  | none => -1
def spDue : Sp := fun vs H Q _ => ∃ x : Str, vs = [.str x] ∧ x.length ≤ 300 ∧ Asc x ∧ ∀ H', Same H H' → Q (.int (dueI x)) H'
theorem sort_in (x : Str) : sortL x = 0 ∨ sortL x = 1 ∨ sortL x = 2 := by
  unfold sortL
  split
  · exact .inr (.inl rfl)
  · split
    · exact .inr (.inr rfl)
    · exact .inl rfl
theorem ev_par {i j : Nat} {a : V} {te : TE} {rest : TS} {D : Ends} {σ : L2.St} {H : Hp} {R : Hp → V → Prop} (h : EvP te σ H R) (q : ∀ v H1, Same H H1 → R H1 v → rest D ((σ.set i (some a)).set j (some v)) H1) : tSeq (tPar i j (tCons (tC a) (tCons te tNil))) rest D σ H := h _ fun v H1 s r => ⟨_, _, rfl, q v H1 s r⟩
theorem ok_due (T : Txt K mg) : FnOk P w K mg base CX0 9 T.a__law_due T.d__law_due ["_law_text"] spDue := by
  have G__law_sort : FnOk P w K mg base CX0 8 T.a__law_sort T.d__law_sort ["_law_line"] spSort := ok_sort T
  refine T.F__law_due.ok sc__law_due (fun vs H Q E h => ?_) (fun cdv A outer s H vs Q E hr h => ?_)
  · obtain ⟨x, rfl, _⟩ := h
    rfl
  · obtain ⟨x, rfl, lx, ax, k⟩ := h
    have nd := sc__law_due.nd
    refine ⟨_, (pss_cons (ps_par (i := 1) (j := 2) (by rfl) nd rfl rfl (by decide) rfl rfl (pa_cons pe_str (pa_cons (pe_ifExp (pt_cmpR op_eq (pv 0) pe_str (nomark _)) (pe_lst pa_nil) (pe_split (pv 0) pe_str)) pa_nil)) (by rfl))
    (pss_cons (ps_for PassesOwn.never rfl (pi_enum (by rfl) T.z_enumerate (pa_cons (pv 2) pa_nil)) (pg_tup rfl (pgs_cons (pg_name (i := 3) nd rfl (Or.inl rfl)) (pgs_cons (pg_name (i := 4) nd rfl (Or.inl rfl)) pgs_nil)))
    (pss_cons (ps_set (i := 5) nd rfl (Or.inl rfl) (pe_call G__law_sort (hr.mono (by first | decide | omega)) (by rfl) T.m__law_sort T.k__law_sort T.b__law_sort .nil pass0 (pa_cons (pv 4) pa_nil)))
    (pss_cons (ps_if (PW.pt (pw_or (pt_cmpR op_eq (pv 5) pe_str (nomark _)) (pw_or (PW.pt (pw_and (pt_cmpR op_eq (pv 5) pe_str (nomark _)) (pw_and1 (pt_cmpR op_eq (pv 1) pe_str (nomark _))))) (pw_or1 (PW.pt (pw_and (pt_cmpR op_eq (pv 5) pe_str (nomark _)) (pw_and1 (pt_cmpR op_eq (pv 1) pe_str (nomark _))))))))) (pss_one (ps_ret (pv 3))) pss_nil)
    (pss_one (ps_set (i := 1) nd rfl (Or.inl rfl) (pv 5))))))
    (pss_one (ps_ret (pe_ifExp (pt_cmpR op_eq (pv 1) pe_str (nomark _)) (pe_callB call_len_seq (by rfl) T.z_len (by decide +kernel) (pa_cons (pv 2) pa_nil)) (pe_op op_sub pe_int pe_int)))))), ?_⟩
    have e9 := sizeLine_eq
    have ln := wordsS_len (s := 10) (x := x)
    have dec_s : ∀ {a b : Str}, decide (V.str a = V.str b) = decide (a = b) := fun {a b} => decide_eq_decide.mpr ⟨fun z => by injection z, fun z => by rw [z]⟩
    have n1 : Str.ofString "rounds" ≠ Str.ofString "none" := by decide
    have n2 : Str.ofString "lane" ≠ Str.ofString "none" := by decide
    have n3 : Str.ofString "none" ≠ Str.ofString "rounds" := by decide
    have n4 : Str.ofString "lane" ≠ Str.ofString "rounds" := by decide
    have n5 : Str.ofString "rounds" ≠ Str.ofString "lane" := by decide
    refine ev_par (R := fun H1 v => ∃ L ls, v = .ref L ∧ H1 L = some (.lst (ls.map V.str)) ∧ ls.length ≤ 301 ∧ (∀ s ∈ ls, s.length ≤ 300 ∧ Asc s) ∧ dueT x = dueL 0 0 ls) (fun Q' q => ?_) fun v H1 s1 r => ?_
    · refine ⟨_, rfl, rfl, _, rfl, ?_⟩
      rw [dec_s]
      refine ifD (fun e => ?_) (fun e => ?_)
      · refine ⟨szL (Nat.le_of_ble_eq_true rfl), fun p np => q _ _ (same_new np) ⟨p, [], rfl, upd_same, Nat.zero_le _, (fun s h => nomatch h), ?_⟩⟩
        unfold dueT
        rw [if_pos e]
        rfl
      · refine ⟨_, rfl, ⟨_, rfl⟩, _, _, rfl, rfl, by decide, by omega, fun p np => q _ _ (same_new np) ⟨p, wordsS 10 x, rfl, ?_, by omega, fun s hs => ⟨Nat.le_trans (wordsS_short hs) lx, asc_sub ax (wordsS_sub s hs)⟩, ?_⟩⟩
        · rw [show Txt.split x (Str.ofString "\n") = _ from wordsS_split (s := 10) (by decide) (by decide +kernel)]
          exact upd_same
        · unfold dueT
          rw [if_neg e]
    obtain ⟨L, ls, rfl, hL, ll, sm, due⟩ := r
    have ret : ∀ (n : Nat), dueL 0 0 ls = some n → ∀ H', Same H H' → Q (.int n) H' := fun n hn H' s' => by
      have z := k H' s'
      unfold dueI at z
      rw [due, hn] at z
      exact z
    have retN : dueL 0 0 ls = none → ∀ H', Same H H' → Q (.int (-1)) H' := fun hn H' s' => by
      have z := k H' s'
      unfold dueI at z
      rw [due, hn] at z
      exact z
    refine ⟨_, rfl, L, _, rfl, SqL.of hL, for_it (walk_enum (xs := ls.map V.str)) (fun i σ Hc => ∃ b y3 y4 y5, σ = [some (.str x), some (.str (sortS x b)), some (.ref L), y3, y4, y5] ∧ b ≤ 2 ∧ dueL 0 0 ls = dueL b i (ls.drop i) ∧ Same H1 Hc)
      ⟨0, none, none, none, rfl, by decide, rfl, Same.refl _⟩ (fun i σ Hc _ hR => ?_) (fun i v σ Hc H2 hi hP hy => ?_) (fun σ Hc hP => ?_)⟩
    · obtain ⟨_, _, _, _, _, _, _, s⟩ := hR
      exact SqL.of (s _ _ hL)
    · obtain ⟨b, y3, y4, y5, rfl, b2, ed, sc⟩ := hP
      obtain ⟨T', v1, v2, rfl, nT, rfl, h1, h2⟩ := hy
      cases h1
      have h2 : (ls.map V.str)[i]? = some v2 := h2
      rw [List.length_map] at hi
      obtain ⟨x', ex, rfl⟩ : ∃ x, ls[i]? = some x ∧ v2 = .str x := by
        rw [List.getElem?_map] at h2
        cases e : ls[i]? with
        | none => rw [e] at h2; cases h2
        | some x => rw [e] at h2; cases h2; exact ⟨x, rfl, rfl⟩
      obtain ⟨lx', ax'⟩ := sm x' (List.mem_of_getElem? ex)
      have edrop : ls.drop i = x' :: ls.drop (i + 1) := by
        obtain ⟨hi2, e⟩ := List.getElem?_eq_some_iff.mp ex
        rw [List.drop_eq_getElem_cons hi2, e]
      rw [edrop] at ed
      refine ⟨T', _, rfl, SqT.of upd_same, rfl, _, _, rfl, _, _, rfl, rfl, ?_⟩
      have s2 := sc.trans (same_new (o := .tup [.int (i : Nat), .str x']) nT)
      generalize upd Hc T' (.tup [.int (i : Nat), .str x']) = H3 at s2 ⊢
      dsimp only [gName]
      refine asg_go ?_
      refine ⟨_, rfl, x', rfl, lx', ax', fun H4 s4 => ?_⟩
      dsimp only [gName]
      have s14 := s2.trans s4
      have back : dueL 0 0 ls = some i → Q (.int (i : Nat)) H4 := fun h => ret i h _ (s1.trans s14)
      have on_ : ∀ σ', σ' = [some (V.str x), some (V.str (sortS x (sortL x'))), some (V.ref L), some (V.int (i : Nat)), some (V.str x'), some (V.str (sortS x (sortL x')))] → dueL 0 0 ls = dueL (sortL x') (i + 1) (ls.drop (i + 1)) →
          ∃ b y3 y4 y5, σ' = [some (V.str x), some (V.str (sortS x b)), some (V.ref L), y3, y4, y5] ∧ b ≤ 2 ∧ dueL 0 0 ls = dueL b (i + 1) (ls.drop (i + 1)) ∧ Same H1 H4 := fun σ' e h => ⟨sortL x', _, _, _, e, by rcases sort_in x' with z | z | z <;> rw [z] <;> decide, h, s14⟩
      rcases sort_in x' with z | z | z
      · rw [z]
        refine seqif_go (or_go (tst_go ?_))
        refine ⟨_, rfl, rfl, _, rfl, ifT (decide_eq_true rfl) ?_⟩
        refine ifT rfl (ret_go ?_)
        exact ⟨_, rfl, back (ed.trans (due_bad (.inl z)))⟩
      · rw [z] at on_ ⊢
        refine seqif_go (or_go (tst_go ?_))
        refine ⟨_, rfl, rfl, _, rfl, ifF (dec_s.trans (decide_eq_false n1)) ?_⟩
        refine or_go (tst_go ?_)
        refine ⟨_, rfl, rfl, _, rfl, ifF (dec_s.trans (decide_eq_false n5)) ?_⟩
        refine ifF rfl ?_
        refine tst_go ?_
        refine ⟨_, rfl, rfl, _, rfl, ifT (decide_eq_true rfl) ?_⟩
        refine tst_go ?_
        refine ⟨_, rfl, rfl, _, rfl, ?_⟩
        rw [dec_s]
        by_cases b1 : b = 1
        · subst b1
          refine ifT (decide_eq_true rfl) ?_
          refine ret_go ?_
          exact ⟨_, rfl, back (ed.trans (due_bad (.inr (.inr ⟨z, rfl⟩))))⟩
        · refine ifF (decide_eq_false ?_) ?_
          · have : b = 0 ∨ b = 2 := by omega
            rcases this with e | e <;> subst e
            · exact n3
            · exact n4
          refine ⟨_, rfl, on_ _ rfl ?_⟩
          rw [ed, due_go (by rw [z]; simp [b1]), z]
      · rw [z] at on_ ⊢
        refine seqif_go (or_go (tst_go ?_))
        refine ⟨_, rfl, rfl, _, rfl, ifF (dec_s.trans (decide_eq_false n2)) ?_⟩
        refine or_go (tst_go ?_)
        refine ⟨_, rfl, rfl, _, rfl, ifT (decide_eq_true rfl) ?_⟩
        refine tst_go ?_
        refine ⟨_, rfl, rfl, _, rfl, ?_⟩
        rw [dec_s]
        by_cases b0 : b = 0
        · subst b0
          refine ifT (decide_eq_true rfl) (ifT rfl ?_)
          refine ret_go ?_
          exact ⟨_, rfl, back (ed.trans (due_bad (.inr (.inl ⟨z, rfl⟩))))⟩
        · refine ifF (decide_eq_false ?_) ?_
          · have : b = 1 ∨ b = 2 := by omega
            rcases this with e | e <;> subst e
            · exact n1
            · exact n2
          refine tst_go ?_
          refine ⟨_, rfl, rfl, _, rfl, ifF (dec_s.trans (decide_eq_false n4)) ?_⟩
          refine ⟨_, rfl, on_ _ rfl ?_⟩
          rw [ed, due_go (by rw [z]; simp [b0]), z]
    · obtain ⟨b, y3, y4, y5, rfl, b2, ed, sc⟩ := hP
      rw [List.length_map, List.drop_length] at ed
      dsimp only
      refine ret_go ?_
      refine ⟨_, rfl, rfl, _, rfl, ?_⟩
      rw [dec_s]
      by_cases b1 : b = 1
      · subst b1
        refine ifT (decide_eq_true rfl) ?_
        refine ⟨_, rfl, L, _, rfl, .inl (SqL.of (sc _ _ hL)), ?_⟩
        rw [List.length_map]
        exact ret _ (ed.trans (if_pos rfl)) _ (s1.trans sc)
      · refine ifF (decide_eq_false ?_) ?_
        · have : b = 0 ∨ b = 2 := by omega
          rcases this with e | e <;> subst e
          · exact n3
          · exact n4
        refine ⟨_, _, rfl, rfl, ?_⟩
        exact retN (ed.trans (if_neg b1)) _ (s1.trans sc)

end
end K09
namespace K09
open PySem PySem.Spec PyProof.Rows L2 Rs
local macro_rules | `(tactic| walk_at "om") => `(tactic| first | omega | (dsimp only; omega))
local macro_rules | `(tactic| walk_at "side") => `(tactic| first | omega | (dsimp only; omega) | decide | (unfold CMul; omega) | (unfold CDiv; omega) | (unfold CPow; omega) | exact wide_div (b := 64) (by omega) (by omega) (by decide) (by decide))
local macro_rules | `(tactic| walk_at "hp") => `(tactic| first | assumption | exact upd_same)
local macro_rules | `(tactic| walk_at "sq") => `(tactic| first | assumption | exact SqL.of (by assumption) | exact SqL.of upd_same)
local macro_rules | `(tactic| walk_at "st") => `(tactic| first
  | refine ⟨_, rfl, ?_⟩
  | (refine ⟨_, _, rfl, rfl, And.intro ?side ?_⟩; (case side => walk_at "side"))
  | refine ⟨_, _, rfl, rfl, ?_⟩
  | (refine' ⟨_, _, _, _, rfl, rfl, SqL.of ?hp, ?atx, ?_⟩; (case hp => walk_at "hp"); (case atx => exact rfl))
  | (refine' ⟨_, _, _, _, rfl, rfl, ?hp, ?atx, ?_⟩; (case hp => walk_at "hp"); (case atx => exact rfl))
  | (refine' ⟨_, _, rfl, Or.inl ?sq, ?_⟩; (case sq => walk_at "sq"))
  | refine Or.inl ⟨_, rfl, ?_⟩
  | refine Or.inr ⟨_, rfl, ?_⟩)
local macro_rules | `(tactic| walk_at "evd") => `(tactic| first
  | exact evd_int
  | exact evd_str
  | exact evd_non
  | exact evd_bl
  | exact evd_nil
  | (refine evd_cons ?_ (fun _ => ?_) <;> walk_at "evd")
  | (refine evd_tup ?_ (Nat.le_of_ble_eq_true rfl); walk_at "evd"))

section
variable {P : Program} {w : World} {K : PySem.W.Frag} {mg : Str → Option Value} {base : Heap}
def spBent : Sp := fun vs H Q _ => ∃ (b : Addr) (x : Str), vs = [.ref b, .str x] ∧ Box H b ∧ x.length ≤ 275 ∧ Asc x ∧ ∀ (y : Str) H', y.length ≤ x.length + 18 → Asc y → Box H' b → But b H H' → Q (.str y) H'
theorem ok_bent (T : Txt K mg) : FnOk P w K mg base CX0 3 T.a__law_bent T.d__law_bent ["_law_box_here", "_law_text"] spBent := by
  have G__law_take : FnOk P w K mg base CX0 1 T.a__law_take T.d__law_take ["_law_box_here", "_law_many"] spTake := ok_take T
  have G__law_pick : FnOk P w K mg base CX0 2 T.a__law_pick T.d__law_pick ["_law_box_here", "_law_some"] spPick := ok_pick T
  refine T.F__law_bent.ok sc__law_bent (fun vs H Q E h => ?_) (fun cdv A outer s H vs Q E hr h => ?_)
  · obtain ⟨b, x, rfl, _⟩ := h
    rfl
  · obtain ⟨b, x, rfl, hB, hl, ha, k⟩ := h
    have nd := sc__law_bent.nd
    refine ⟨_, (pss_cons (ps_par (i := 2) (j := 3) (by rfl) nd rfl rfl (by decide) rfl rfl (pa_cons (pe_split (pv 1) pe_str) (pa_cons (pe_call G__law_take (hr.mono (by first | decide | omega)) (by rfl) T.m__law_take T.k__law_take T.b__law_take .nil pass0 (pa_cons (pv 0) (pa_cons pe_int pa_nil))) pa_nil)) (by rfl))
    (pss_cons (ps_set (i := 4) nd rfl (Or.inl rfl) (pe_call G__law_take (hr.mono (by first | decide | omega)) (by rfl) T.m__law_take T.k__law_take T.b__law_take .nil pass0 (pa_cons (pv 0) (pa_cons (pe_callB call_len_seq (by rfl) T.z_len (by decide +kernel) (pa_cons (pv 2) pa_nil)) pa_nil))))
    (pss_cons (ps_set (i := 5) nd rfl (Or.inl rfl) (pe_lst (pa_cons pe_str (pa_cons pe_str (pa_cons pe_str (pa_cons pe_str (pa_cons pe_str (pa_cons pe_str (pa_cons pe_str pa_nil)))))))))
    (pss_cons (ps_expr (pe_bm PySem.F.plainAttrs_list PySem.F.slot_list_extend PySem.F.type_list_extend mt_extend (pv 5) (pa_cons (pe_lst (pa_cons pe_str (pa_cons pe_str pa_nil))) pa_nil)))
    (pss_cons (ps_if (pt_cmpR op_eq (pv 3) pe_int (nomark _)) (pss_one (ps_ret (pe_join pe_str (pe_op op_cat (pe_slice sl_list (pv 2) po_none (po_some (pv 4))) (pe_slice sl_list (pv 2) (po_some (pe_op op_add (pv 4) pe_int)) po_none))))) pss_nil)
    (pss_cons (ps_if (pt_cmpR op_lt (pv 3) pe_int (nomark _)) (pss_one (ps_ret (pe_join pe_str (pe_op op_cat (pe_op op_cat (pe_slice sl_list (pv 2) po_none (po_some (pv 4))) (pe_lst (pa_cons (pe_call G__law_pick (hr.mono (by first | decide | omega)) (by rfl) T.m__law_pick T.k__law_pick T.b__law_pick .nil pass0 (pa_cons (pv 0) (pa_cons (pv 5) pa_nil))) pa_nil))) (pe_slice sl_list (pv 2) (po_some (pe_op op_sub (pe_op op_add (pv 4) (pv 3)) pe_int)) po_none))))) pss_nil)
    (pss_cons (ps_if (pt_cmpR op_eq (pv 3) pe_int (nomark _)) (pss_one (ps_ret (pe_join pe_str (pe_op op_cat (pe_op op_cat (pe_slice sl_list (pv 2) po_none (po_some (pv 4))) (pe_turnL (pe_slice sl_list (pv 2) (po_some (pv 4)) (po_some (pe_op op_add (pv 4) pe_int))) (po_some (pe_op op_sub pe_int pe_int)))) (pe_slice sl_list (pv 2) (po_some (pe_op op_add (pv 4) pe_int)) po_none))))) pss_nil)
    (pss_cons (ps_set (i := 6) nd rfl (Or.inl rfl) (pe_call G__law_take (hr.mono (by first | decide | omega)) (by rfl) T.m__law_take T.k__law_take T.b__law_take .nil pass0 (pa_cons (pv 0) (pa_cons (pe_op op_add (pe_callB call_len_str (by rfl) T.z_len (by decide +kernel) (pa_cons (pv 1) pa_nil)) pe_int) pa_nil))))
    (pss_one (ps_ret (pe_op op_add_str (pe_op op_add_str (pe_slice sl_str (pv 1) po_none (po_some (pv 6))) (pe_call G__law_pick (hr.mono (by first | decide | omega)) (by rfl) T.m__law_pick T.k__law_pick T.b__law_pick .nil pass0 (pa_cons (pv 0) (pa_cons (pe_lst (pa_cons pe_str (pa_cons pe_str (pa_cons pe_str (pa_cons pe_str (pa_cons pe_str pa_nil)))))) pa_nil)))) (pe_slice sl_str (pv 1) (po_some (pe_op op_add (pv 6) (pe_callTy call_int1 (by rfl) T.z_int (by decide +kernel) (pa_cons (pe_cmpR op_eq (pv 3) pe_int (nomark _)) pa_nil)))) po_none)))))))))))), ?_⟩
    have e9 := sizeLine_eq
    have ln := wordsS_len (s := 10) (x := x)
    refine ⟨_, rfl, ⟨_, rfl⟩, _, _, rfl, rfl, by decide, by omega, fun p np => ?_⟩
    rw [show Txt.split x (Str.ofString "\n") = _ from wordsS_split (s := 10) (by decide) (by decide +kernel)]
    have wne := wordsS_ne (s := 10) (x := x)
    have wl : 0 < (wordsS 10 x).length := List.length_pos_iff.mpr wne
    have wsum := lsum_words (s := 10) (x := x)
    have wasc := asc_words (s := 10) ha
    have s0 := same_new (H := H) (o := .lst ((wordsS 10 x).map V.str)) np
    have hp : upd H p (.lst ((wordsS 10 x).map V.str)) p = some (.lst ((wordsS 10 x).map V.str)) := upd_same
    have npb := hB.ne_none np
    have B0 := hB.same s0
    generalize wordsS 10 x = ws at *
    generalize upd H p (.lst (ws.map V.str)) = H0 at s0 hp B0 ⊢
    refine ⟨_, rfl, b, 6, rfl, B0, by decide, by decide, fun m H1 m0 m1 B1 k1 => ?_⟩
    have hp1 := k1 _ _ npb hp
    refine ⟨_, _, rfl, ?_⟩
    dsimp only
    refine asg_go ?_
    refine ⟨_, rfl, _, rfl, p, _, rfl, .inl (SqL.of hp1), b, _, rfl, B1, by rw [List.length_map]; omega, by rw [List.length_map]; omega, fun r H2 r0 r1 B2 k2 => ?_⟩
    rw [List.length_map] at r1
    have hp2 := k2 _ _ npb hp1
    have k02 := ((But.of_same (b := b) s0).trans k1).trans k2
    obtain ⟨j, rfl⟩ : ∃ j : Nat, r = (j : Int) := ⟨r.toNat, by omega⟩
    obtain ⟨m, rfl⟩ : ∃ n : Nat, m = (n : Int) := ⟨m.toNat, by omega⟩
    have jl : j < ws.length := by omega
    dsimp only [gName]
    refine asg_go ?_
    refine ⟨szL (Nat.le_of_ble_eq_true rfl), fun q nq => ?_⟩
    dsimp only [gName]
    refine ⟨_, rfl, .inl ⟨rfl, _, SqL.of upd_same⟩, szL (Nat.le_of_ble_eq_true rfl), fun q2 nq2 => ⟨q, q2, _, _, rfl, rfl, same_new nq2 _ _ upd_same, upd_same, by rw [e9]; decide, ?_⟩⟩
    have s3 : Same H2 (upd (upd (upd H2 q (.lst ((oddL.take 7).map V.str))) q2 (.lst ((oddL.drop 7).map V.str))) q (.lst (oddL.map V.str))) := same_lst ((same_new nq).trans (same_new nq2)) nq
    have hq : upd (upd (upd H2 q (.lst ((oddL.take 7).map V.str))) q2 (.lst ((oddL.drop 7).map V.str))) q (.lst (oddL.map V.str)) q = some (.lst (oddL.map V.str)) := upd_same
    dsimp only [tDrop]
    show tSeq (tIfS _ _ _) _ _ _ (upd (upd (upd H2 q (.lst ((oddL.take 7).map V.str))) q2 (.lst ((oddL.drop 7).map V.str))) q (.lst (oddL.map V.str)))
    generalize upd (upd (upd H2 q (.lst ((oddL.take 7).map V.str))) q2 (.lst ((oddL.drop 7).map V.str))) q (.lst (oddL.map V.str)) = H3 at s3 hq ⊢
    have nqb := B2.ne_none nq
    have B3 := B2.same s3
    have hp3 := s3 _ _ hp2
    have k03 := k02.trans (But.of_same (b := b) s3)
    clear k02 k1 k2 s0 B0 B1 B2 hp1 hp2 hp s3
    have fin : ∀ (ls : List Str) (H' : Hp), lsum ls ≤ x.length + 18 → (∀ l ∈ ls, Asc l) → Box H' b → But b H H' → Q (.str (Txt.join nl ls)) H' := fun ls H' h1 h2 h3 h4 => k _ _ (Nat.le_trans join_lsum h1) (asc_join asc_nl h2) h3 h4
    have small : ∀ (ls : List Str), lsum ls ≤ x.length + 18 → (ls.map fun x => x.length).sum + ls.length * (Str.ofString "\n").length ≤ 16777216 := fun ls h => by
      have e : (Str.ofString "\n").length = 1 := by decide
      unfold lsum at h
      rw [e]
      omega
    have dec_i : ∀ {m n : Nat}, decide (V.int (m : Int) = V.int (n : Int)) = decide (m = n) := fun {m n} => decide_eq_decide.mpr ⟨fun z => by injection z with z; omega, fun z => by rw [z]⟩
    have lc1 : lsum (ws.take j) + lsum (ws.drop j) = lsum ws := lsum_cut j ws
    refine seqif_go (tst_go ?_)
    refine ⟨_, rfl, rfl, _, rfl, ?_⟩
    show if decide (V.int (m : Int) = V.int ((0 : Nat) : Int)) = true then _ else _
    rw [dec_i]
    refine ifD (fun e => ?_) (fun e => ?_)
    · refine ret_go ?_
      refine ⟨⟨_, rfl⟩, ?_⟩
      refine ⟨_, rfl, _, rfl, _, rfl, p, _, rfl, SqL.of hp3, fun S1 nS1 => ?_⟩
      rw [cut_lto]
      have t1 := same_new (o := .lst ((ws.take j).map V.str)) nS1
      refine ⟨_, rfl, _, rfl, _, _, rfl, rfl, _, rfl, ?_⟩
      dsimp only [tNoPart]
      refine ⟨p, _, rfl, SqL.of (t1 _ _ hp3), fun S2 nS2 => ?_⟩
      rw [show (j : Int) + 1 = ((j + 1 : Nat) : Int) from rfl, cut_lfrom]
      have t2 := same_new (o := .lst ((ws.drop (j + 1)).map V.str)) nS2
      refine ⟨S1, S2, _, _, rfl, rfl, t2 _ _ upd_same, upd_same, by simp only [List.length_map, List.length_take, List.length_drop]; omega, fun S3 nS3 => ?_⟩
      have t3 := (t1.trans t2).trans (same_new (o := .lst ((ws.take j).map V.str ++ (ws.drop (j + 1)).map V.str)) nS3)
      have lc2 : lsum (ws.take j ++ ws.drop (j + 1)) ≤ x.length + 18 := by
        have := lsum_drop 1 (ws.drop j)
        rw [List.drop_drop] at this
        rw [lsum_app]
        omega
      refine ⟨nl, S3, ws.take j ++ ws.drop (j + 1), rfl, rfl, .inl (SqL.of (by rw [List.map_append]; exact upd_same)), small _ lc2, fin _ _ lc2 (fun l hl => ?_) (B3.same t3) (k03.trans (But.of_same t3))⟩
      rcases List.mem_append.mp hl with h | h
      · exact wasc l (List.mem_of_mem_take h)
      · exact wasc l (List.mem_of_mem_drop h)
    dsimp only [tNext]
    refine seqif_go (tst_go ?_)
    refine ⟨_, rfl, _, _, rfl, rfl, _, rfl, ifD (fun e3 => ?_) (fun e3 => ?_)⟩
    · refine ret_go ?_
      refine ⟨⟨_, rfl⟩, ?_⟩
      refine ⟨_, rfl, _, rfl, _, rfl, p, _, rfl, SqL.of hp3, fun S1 nS1 => ?_⟩
      rw [cut_lto]
      have t1 := same_new (o := .lst ((ws.take j).map V.str)) nS1
      have B4 := B3.same t1
      refine ⟨_, rfl, _, rfl, b, q, _, rfl, B4, nqb, t1 _ _ hq, by decide, by decide, fun v H5 hv B5 k5 => ?_⟩
      obtain ⟨o, rfl, ho⟩ : ∃ o : Str, v = .str o ∧ o ∈ oddL := by
        obtain ⟨o, ho, rfl⟩ := List.mem_map.mp hv
        exact ⟨o, rfl, ho⟩
      obtain ⟨lo, ao⟩ := odd_ok o ho
      have nS1b := B3.ne_none nS1
      have hS1 := k5 _ _ nS1b upd_same
      have hp5 := k5 _ _ npb (t1 _ _ hp3)
      refine ⟨szL (Nat.le_of_ble_eq_true rfl), fun S2 nS2 => ?_⟩
      have t2 := same_new (o := .lst ([o].map V.str)) nS2
      refine ⟨S1, S2, _, _, rfl, rfl, t2 _ _ hS1, upd_same, by simp only [List.length_map, List.length_take, List.length_cons, List.length_nil]; omega, fun S3 nS3 => ?_⟩
      have t3 := t2.trans (same_new (o := .lst ((ws.take j).map V.str ++ [o].map V.str)) nS3)
      refine ⟨_, rfl, _, rfl, _, rfl, _, _, rfl, rfl, _, _, rfl, rfl, _, rfl, ?_⟩
      dsimp only [tNoPart]
      refine ⟨p, _, rfl, SqL.of (t3 _ _ hp5), fun S4 nS4 => ?_⟩
      have m12 : 1 ≤ m ∧ m ≤ 2 := by omega
      rw [show (j : Int) + (m : Int) - 1 = ((j + m - 1 : Nat) : Int) by omega, cut_lfrom]
      have t4 := same_new (o := .lst ((ws.drop (j + m - 1)).map V.str)) nS4
      refine ⟨S3, S4, _, _, rfl, rfl, t4 _ _ upd_same, upd_same, by simp only [List.length_append, List.length_map, List.length_take, List.length_drop, List.length_cons, List.length_nil]; omega, fun S5 nS5 => ?_⟩
      have t5 := (t3.trans t4).trans (same_new (o := .lst (((ws.take j).map V.str ++ [o].map V.str) ++ (ws.drop (j + m - 1)).map V.str)) nS5)
      have lc2 : lsum (ws.take j ++ [o] ++ ws.drop (j + m - 1)) ≤ x.length + 18 := by
        have := lsum_drop (m - 1) (ws.drop j)
        rw [List.drop_drop, show j + (m - 1) = j + m - 1 by omega] at this
        rw [lsum_app, lsum_app, lsum_one]
        omega
      refine ⟨nl, S5, ws.take j ++ [o] ++ ws.drop (j + m - 1), rfl, rfl, .inl (SqL.of (by rw [List.map_append, List.map_append]; exact upd_same)), small _ lc2, fin _ _ lc2 (fun l hl => ?_) (B5.same t5) (((k03.trans (But.of_same t1)).trans k5).trans (But.of_same t5))⟩
      rcases List.mem_append.mp hl with h | h
      · rcases List.mem_append.mp h with h | h
        · exact wasc l (List.mem_of_mem_take h)
        · rw [List.mem_singleton.mp h]
          exact asc_all ao
      · exact wasc l (List.mem_of_mem_drop h)
    dsimp only [tNext]
    refine seqif_go (tst_go ?_)
    refine ⟨_, rfl, rfl, _, rfl, ?_⟩
    show if decide (V.int (m : Int) = V.int ((3 : Nat) : Int)) = true then _ else _
    rw [dec_i]
    refine ifD (fun e5 => ?_) (fun e5 => ?_)
    · refine ret_go ?_
      refine ⟨⟨_, rfl⟩, ?_⟩
      refine ⟨_, rfl, _, rfl, _, rfl, p, _, rfl, SqL.of hp3, fun S1 nS1 => ?_⟩
      rw [cut_lto]
      have t1 := same_new (o := .lst ((ws.take j).map V.str)) nS1
      refine ⟨_, rfl, _, rfl, _, rfl, _, rfl, _, _, rfl, rfl, _, rfl, p, _, rfl, SqL.of (t1 _ _ hp3), fun S2 nS2 => ?_⟩
      rw [cut_lmid (by omega)]
      have t2 := same_new (o := .lst (((ws.drop j).take 2).map V.str)) nS2
      refine ⟨_, _, rfl, rfl, _, rfl, S2, rfl, rfl, _, SqL.of upd_same, fun S3 nS3 => ?_⟩
      rw [← List.map_reverse]
      have t3 := t2.trans (same_new (o := .lst ((((ws.drop j).take 2).reverse).map V.str)) nS3)
      refine ⟨S1, S3, _, _, rfl, rfl, t3 _ _ upd_same, upd_same, by simp only [List.length_map, List.length_take, List.length_drop, List.length_reverse]; omega, fun S4 nS4 => ?_⟩
      have t4 := t3.trans (same_new (o := .lst ((ws.take j).map V.str ++ (((ws.drop j).take 2).reverse).map V.str)) nS4)
      refine ⟨_, rfl, _, rfl, _, _, rfl, rfl, _, rfl, ?_⟩
      dsimp only [tNoPart]
      refine ⟨p, _, rfl, SqL.of (t4 _ _ (t1 _ _ hp3)), fun S5 nS5 => ?_⟩
      rw [show (j : Int) + 2 = ((j + 2 : Nat) : Int) from rfl, cut_lfrom]
      have t5 := same_new (o := .lst ((ws.drop (j + 2)).map V.str)) nS5
      refine ⟨S4, S5, _, _, rfl, rfl, t5 _ _ upd_same, upd_same, by simp only [List.length_append, List.length_map, List.length_take, List.length_drop, List.length_reverse]; omega, fun S6 nS6 => ?_⟩
      have t6 := ((t1.trans t4).trans t5).trans (same_new (o := .lst (((ws.take j).map V.str ++ (((ws.drop j).take 2).reverse).map V.str) ++ (ws.drop (j + 2)).map V.str)) nS6)
      have lc2 : lsum (ws.take j ++ ((ws.drop j).take 2).reverse ++ ws.drop (j + 2)) ≤ x.length + 18 := by
        have := lsum_cut 2 (ws.drop j)
        rw [List.drop_drop] at this
        rw [lsum_app, lsum_app, lsum_rev]
        omega
      refine ⟨nl, S6, ws.take j ++ ((ws.drop j).take 2).reverse ++ ws.drop (j + 2), rfl, rfl, .inl (SqL.of (by rw [List.map_append, List.map_append]; exact upd_same)), small _ lc2, fin _ _ lc2 (fun l hl => ?_) (B3.same t6) (k03.trans (But.of_same t6))⟩
      rcases List.mem_append.mp hl with h | h
      · rcases List.mem_append.mp h with h | h
        · exact wasc l (List.mem_of_mem_take h)
        · exact wasc l (mem_cut (i := 0) (j := 0) (.inr (.inr h)))
      · exact wasc l (List.mem_of_mem_drop h)
    · dsimp only [tNext]
      refine asg_go ?_
      refine ⟨_, rfl, _, rfl, x, rfl, by omega, _, _, rfl, rfl, b, _, rfl, B3, by omega, by omega, fun r H4 r0' r1' B4 k4 => ?_⟩
      obtain ⟨sp, rfl⟩ : ∃ n : Nat, r = (n : Int) := ⟨r.toNat, by omega⟩
      have spl : sp ≤ x.length := by omega
      dsimp only [gName]
      refine ret_go ?_
      have lA := cut_to_le (x := x) (j := sp)
      have aA : Asc (cutS x none (some (sp : Int))) := cutS_asc ha
      refine ⟨_, rfl, _, rfl, _, rfl, x, rfl, by omega, ?_⟩
      refine ⟨_, rfl, szL (Nat.le_of_ble_eq_true rfl), fun S1 nS1 => ?_⟩
      have t1 := same_new (o := .lst (tinyL.map V.str)) nS1
      refine ⟨b, S1, _, rfl, B4.same t1, B4.ne_none nS1, upd_same, by decide, by decide, fun v H5 hv B5 k5 => ?_⟩
      obtain ⟨o, rfl, ho⟩ : ∃ o : Str, v = .str o ∧ o ∈ tinyL := by
        have hv : v ∈ tinyL.map V.str := hv
        obtain ⟨o, ho, rfl⟩ := List.mem_map.mp hv
        exact ⟨o, rfl, ho⟩
      obtain ⟨lo, ao⟩ := tiny_ok o ho
      have kk := ((k03.trans k4).trans (But.of_same t1)).trans k5
      refine ⟨_, _, rfl, rfl, by omega, ?_⟩
      have fine : ∀ i : Int, 0 ≤ i → Q (.str (cutS x none (some (sp : Int)) ++ o ++ cutS x (some ((sp : Int) + i)) none)) H5 := fun i hi => by
        have lC := cut_from_le (x := x) (i := (sp : Int) + i) (by omega)
        exact k _ _ (by rw [Str.length_append, Str.length_append]; omega) (asc_app (asc_app aA (asc_all ao)) (cutS_asc ha)) B5 kk
      have lens : ∀ i : Int, 0 ≤ i → (cutS x none (some (sp : Int)) ++ o).length + (cutS x (some ((sp : Int) + i)) none).length ≤ sizeLine := fun i hi => by
        have lC := cut_from_le (x := x) (i := (sp : Int) + i) (by omega)
        rw [Str.length_append]
        omega
      have i0 : ∀ k : Bool, (0 : Int) ≤ if k = true then 1 else 0 := fun k => by cases k <;> decide
      refine ⟨_, rfl, _, rfl, _, rfl, rfl, .inr ⟨_, rfl, _, _, rfl, rfl, _, rfl, ?_⟩⟩
      dsimp only [tNoPart]
      refine ⟨x, rfl, by omega, _, _, rfl, rfl, lens _ (i0 _), ?_⟩
      exact fine _ (i0 _)

end
end K09
namespace K09
open PySem PySem.Spec PyProof.Rows L2 Rs
local macro_rules | `(tactic| walk_at "om") => `(tactic| first | omega | (dsimp only; omega))
local macro_rules | `(tactic| walk_at "side") => `(tactic| first | omega | (dsimp only; omega) | decide | (unfold CMul; omega) | (unfold CDiv; omega) | (unfold CPow; omega) | exact wide_div (b := 64) (by omega) (by omega) (by decide) (by decide))
local macro_rules | `(tactic| walk_at "hp") => `(tactic| first | assumption | exact upd_same)
local macro_rules | `(tactic| walk_at "sq") => `(tactic| first | assumption | exact SqL.of (by assumption) | exact SqL.of upd_same)
local macro_rules | `(tactic| walk_at "st") => `(tactic| first
  | refine ⟨_, rfl, ?_⟩
  | (refine ⟨_, _, rfl, rfl, And.intro ?side ?_⟩; (case side => walk_at "side"))
  | refine ⟨_, _, rfl, rfl, ?_⟩
  | (refine' ⟨_, _, _, _, rfl, rfl, SqL.of ?hp, ?atx, ?_⟩; (case hp => walk_at "hp"); (case atx => exact rfl))
  | (refine' ⟨_, _, _, _, rfl, rfl, ?hp, ?atx, ?_⟩; (case hp => walk_at "hp"); (case atx => exact rfl))
  | (refine' ⟨_, _, rfl, Or.inl ?sq, ?_⟩; (case sq => walk_at "sq"))
  | refine Or.inl ⟨_, rfl, ?_⟩
  | refine Or.inr ⟨_, rfl, ?_⟩)
local macro_rules | `(tactic| walk_at "evd") => `(tactic| first
  | exact evd_int
  | exact evd_str
  | exact evd_non
  | exact evd_bl
  | exact evd_nil
  | (refine evd_cons ?_ (fun _ => ?_) <;> walk_at "evd")
  | (refine evd_tup ?_ (Nat.le_of_ble_eq_true rfl); walk_at "evd"))

section
variable {P : Program} {w : World} {K : PySem.W.Frag} {mg : Str → Option Value} {base : Heap}
theorem repr_small {x : Str} (h : Asc x) (l : x.length ≤ 300) : (PyData.str x).shown.length ≤ sizeLine := by
  have e9 := sizeLine_eq
  have z : (PyData.str x).shown.length ≤ 10 * x.length + 2 := StrLaws.reprText_len x fun c hc => Nat.lt_trans (h c hc) (by decide)
  omega
theorem far_int {i : Int} (h : i.natAbs < 10 ^ 20) : i.natAbs.log2 < 1920 ∧ (Str.ofString (toString i)).length ≤ 25 ∧ PyData.weight (.int i) ≤ 81 := by
  have h2 : i.natAbs.log2 < 80 := by
    by_cases z : i.natAbs = 0
    · rw [z]; decide
    · exact (Nat.log2_lt z).mpr (Nat.lt_of_lt_of_le h (by decide))
  refine ⟨by omega, ?_, ?_⟩
  · have e := PySem.int_text_length_le10 (a := i) (k := 20) (by decide) h
    rw [PySem.ofString_length]
    omega
  · unfold PyData.weight
    split
    · omega
    · omega
theorem show_nat {n : Nat} (h : n ≤ 400) : (PyData.int (n : Int)).showable = true ∧ (PyData.int (n : Int)).shown.length ≤ sizeLine := by
  obtain ⟨ta, tb, tc⟩ := far_int (i := (n : Int)) (by omega)
  refine ⟨decide_eq_true ta, ?_⟩
  have h := PyData.shown_le 25 (by decide) (.int (n : Int)) (decide_eq_true tb)
  have e := sizeLine_eq
  omega
theorem dueL_le : ∀ {ls : List Str} {b i n : Nat}, dueL b i ls = some n → n ≤ i + ls.length
  | [], b, i, n, h => by
    unfold dueL at h
    split at h
    · injection h with h
      omega
    · cases h
  | x :: r, b, i, n, h => by
    unfold dueL at h
    split at h
    · injection h with h
      omega
    · have := dueL_le h
      rw [List.length_cons]
      omega
theorem dueT_le {x : Str} {n : Nat} (l : x.length ≤ 300) (h : dueT x = some n) : n ≤ 400 := by
  unfold dueT at h
  split at h
  · cases h
  · have a := dueL_le h
    have b := wordsS_len (s := 10) (x := x)
    omega
theorem bw_all {b : Addr} {H : Hp} {bs : List V} {ds : List BD} (h : AllR (BlockV b H) bs ds) : ∀ d ∈ ds, BW d := by
  induction h with
  | nil => intro d h; cases h
  | cons z _ ih =>
    intro d h
    rcases List.mem_cons.mp h with h | h
    · subst h
      obtain ⟨_, _, _, _, _, _, _, _, _, _, i⟩ := z
      exact i
    · exact ih d h
theorem PlanE.o {CP CB CL CF : Addr} {H : Hp} {v : V} {ds : List BD} (h : PlanE K CP CB CL CF H v ds) (ne : ds ≠ []) : PlanO CP CB CL CF H v ds := by
  rcases h.two with h | ⟨e, _⟩
  · exact h
  · exact absurd e ne
theorem due_0 : dueT (Str.ofString "") = none := if_pos rfl
theorem sort_r1 : sortL (Str.ofString "rounds n") = 1 := sort_R ⟨1, 0, 1, .small (by decide) (by decide) (by decide) (by decide) (by decide) (by decide), by decide +kernel⟩
theorem sort_l1 : sortL (Str.ofString "up - 0 add") = 2 := sort_L ⟨⟨"up", "-", 0, 0, 1, "add"⟩, ⟨by decide, by decide, by decide, .small (by decide) (by decide) (by decide) (by decide) (by decide) (by decide)⟩, by decide +kernel⟩
theorem sort_e : sortL (Str.ofString "") = 0 := by
  have l : (wordsS 32 (Str.ofString "")).length = 1 := by decide +kernel
  refine sort_0 (fun h => ?_) (fun h => ?_)
  · obtain ⟨f, e, _⟩ := isR_words.mp h
    rw [e] at l
    cases l
  · obtain ⟨_, _, _, _, e, _⟩ := isL_words.mp h
    rw [e] at l
    cases l
theorem due_1 : dueT (Str.ofString "rounds n") = some 1 := by
  unfold dueT
  rw [if_neg (by decide), show wordsS 10 (Str.ofString "rounds n") = [Str.ofString "rounds n"] by decide +kernel, due_go (by rw [sort_r1]; simp), sort_r1]
  exact if_pos rfl
theorem due_2 : dueT (Str.ofString "rounds n\nrounds n") = some 1 := by
  unfold dueT
  rw [if_neg (by decide), show wordsS 10 (Str.ofString "rounds n\nrounds n") = [Str.ofString "rounds n", Str.ofString "rounds n"] by decide +kernel, due_go (by rw [sort_r1]; simp), sort_r1]
  exact due_bad (.inr (.inr ⟨sort_r1, rfl⟩))
theorem due_3 : dueT (Str.ofString "up - 0 add") = some 0 := by
  unfold dueT
  rw [if_neg (by decide), show wordsS 10 (Str.ofString "up - 0 add") = [Str.ofString "up - 0 add"] by decide +kernel]
  exact due_bad (.inr (.inl ⟨sort_l1, rfl⟩))
theorem due_4 : dueT (Str.ofString "rounds n\nup - 0 add\n") = some 2 := by
  unfold dueT
  rw [if_neg (by decide), show wordsS 10 (Str.ofString "rounds n\nup - 0 add\n") = [Str.ofString "rounds n", Str.ofString "up - 0 add", Str.ofString ""] by decide +kernel, due_go (by rw [sort_r1]; simp), sort_r1, due_go (by rw [sort_l1]; simp), sort_l1]
  exact due_bad (.inl sort_e)
def spLaw (K : PySem.W.Frag) : Sp := fun vs H Q _ => ∃ (a : Addr) (ns : List Int), vs = [.ref a] ∧ SqL K H a (ns.map V.int) ∧ ns.length ≤ 63 ∧ ∀ H', Q (.bl true) H'
theorem ok_law (T : Txt K mg) : At callerA P w K mg base CX0 16 T.a_law ["_law_script"] T.d_law (spLaw K) := by
  have G__law_take : FnOk P w K mg base CX0 1 T.a__law_take T.d__law_take ["_law_box_here", "_law_many"] spTake := ok_take T
  have G__law_box : FnOk P w K mg base CX0 1 T.a__law_box T.d__law_box ["_law_script", "_law_k"] (spBox K) := ok_box T
  have G__law_plan : FnOk P w K mg base CX0 6 T.a__law_plan T.d__law_plan ["_law_box_here", "_law_blocks", "_law_lanes", "_law_far"] spPlan := ok_plan T
  have G__law_plan_text : FnOk P w K mg base CX0 3 T.a__law_plan_text T.d__law_plan_text ["_law_plan_here"] (spPlanText K) := ok_plan_text T
  have G__law_plan_of : FnOk P w K mg base CX0 5 T.a__law_plan_of T.d__law_plan_of ["_law_plan_here"] (spPlanOf T.c_Plan T.c_Block T.c_Lane T.c_Form) := ok_plan_of T
  have G__law_read : FnOk P w K mg base CX0 14 T.a__law_read T.d__law_read ["_law_text"] spLRead := ok_lread T
  have G__law_bent : FnOk P w K mg base CX0 3 T.a__law_bent T.d__law_bent ["_law_box_here", "_law_text"] spBent := ok_bent T
  have G__law_due : FnOk P w K mg base CX0 9 T.a__law_due T.d__law_due ["_law_text"] spDue := ok_due T
  have R_Plan_read : FnR P w K mg base CX0 9 T.a_Plan_read (quietSp (spPReadG K T.c_Plan T.c_Block T.c_Lane T.c_Form T.c_InvalidText)) := fnR (quiet (ok_preadG T)) T.b_Plan_read
  have R_peq : FnR P w K mg base CX0 7 T.a_Plan___eq__ (spPEq K T.c_Plan T.c_Block T.c_Lane T.c_Form) := fnR (ok_peq T) T.b_Plan___eq__
  refine fun_at0 T.F_law sc_law (fun vs H Q E h => ?_) (fun cdv outer s H vs Q E hr h => ?_)
  · obtain ⟨a, ns, rfl, _⟩ := h
    rfl
  · obtain ⟨a, ns, rfl, hS, hlen, k⟩ := h
    have nd := sc_law.nd
    have hgd : (callerA.deeper (envOfC "law" (defScope s_law) s.heap.objs.size T.a_law cdv)).guards = some [] := guards_deeper rfl
    refine ⟨_, (pss_cons (ps_for PassesOwn.never rfl (pi_range1 (by rfl) T.z_range (pa_cons (pe_callB (call_max2 rfl) (by rfl) T.z_max (by decide +kernel) (pa_cons pe_int (pa_cons (pe_callB (call_min2 rfl) (by rfl) T.z_min (by decide +kernel) (pa_cons pe_int (pa_cons (pe_callB call_len_seq (by rfl) T.z_len (by decide +kernel) (pa_cons (pv 0) pa_nil)) pa_nil))) pa_nil))) pa_nil)) (pg_name (i := 1) nd rfl (Or.inl rfl))
    (pss_cons (ps_set (i := 2) nd rfl (Or.inl rfl) (pe_call G__law_box (hr.mono (by first | decide | omega)) (by rfl) T.m__law_box T.k__law_box T.b__law_box .nil pass0 (pa_cons (pv 0) (pa_cons (pv 1) pa_nil))))
    (pss_one (ps_for PassesOwn.never rfl (pi_range1 (by rfl) T.z_range (pa_cons pe_int pa_nil)) (pg_name (i := 3) nd rfl (Or.inl rfl))
    (pss_cons (ps_set (i := 4) nd rfl (Or.inl rfl) (pe_call G__law_plan (hr.mono (by first | decide | omega)) (by rfl) T.m__law_plan T.k__law_plan T.b__law_plan .nil pass0 (pa_cons (pv 2) (pa_cons pe_int (pa_cons pe_int (pa_cons pe_int pa_nil))))))
    (pss_cons (ps_set (i := 5) nd rfl (Or.inl rfl) (pe_call G__law_plan_text (hr.mono (by first | decide | omega)) (by rfl) T.m__law_plan_text T.k__law_plan_text T.b__law_plan_text .nil pass0 (pa_cons (pv 4) pa_nil)))
    (pss_cons (ps_if (PW.pt (pw_or (pt_cmpR op_ne (pe_call G__law_read (hr.mono (by first | decide | omega)) (by rfl) T.m__law_read T.k__law_read T.b__law_read .nil pass0 (pa_cons (pv 5) pa_nil)) (pv 5) (nomark _)) (pw_or1 (pt_cmpR (op_neO T.O_Plan R_peq (hr.mono (by decide)) pass0) (ClX.pe_cmeth (pe_glob rfl T.m_Plan (rel_ref _)) T.R_Plan T.G_Plan_read R_Plan_read (hr.mono (by first | decide | omega)) pass0 (pa_cons (pv 5) pa_nil)) (pe_call G__law_plan_of (hr.mono (by first | decide | omega)) (by rfl) T.m__law_plan_of T.k__law_plan_of T.b__law_plan_of .nil pass0 (pa_cons (pv 4) pa_nil)) (nomark _))))) (pss_one (ps_ret pe_bl)) pss_nil)
    (pss_one (ps_for PassesOwn.never rfl (pi_range1 (by rfl) T.z_range (pa_cons pe_int pa_nil)) (pg_name (i := 6) nd rfl (Or.inl rfl))
    (pss_cons (ps_set (i := 5) nd rfl (Or.inl rfl) (pe_call G__law_bent (hr.mono (by first | decide | omega)) (by rfl) T.m__law_bent T.k__law_bent T.b__law_bent .nil pass0 (pa_cons (pv 2) (pa_cons (pv 5) pa_nil))))
    (pss_cons (ps_set (i := 7) nd rfl (Or.inl rfl) (pe_call G__law_due (hr.mono (by first | decide | omega)) (by rfl) T.m__law_due T.k__law_due T.b__law_due .nil pass0 (pa_cons (pv 5) pa_nil)))
    (pss_one (ps_if (pt_cmpR op_ne (pe_callB (call_reprD hr hgd) (by rfl) T.z_repr (by decide +kernel) (pa_cons (pe_call G__law_read (hr.mono (by first | decide | omega)) (by rfl) T.m__law_read T.k__law_read T.b__law_read .nil pass0 (pa_cons (pv 5) pa_nil)) pa_nil)) (pe_callB (call_reprD hr hgd) (by rfl) T.z_repr (by decide +kernel) (pa_cons (pe_ifExp (pt_cmpR op_lt (pv 7) pe_int (nomark _)) (pv 5) (pv 7)) pa_nil)) (nomark _)) (pss_one (ps_ret pe_bl)) pss_nil)))))))))))))
    (pss_cons (ps_if (PW.pt (pw_or (pt_cmpR op_ne (pe_call G__law_read (hr.mono (by first | decide | omega)) (by rfl) T.m__law_read T.k__law_read T.b__law_read .nil pass0 (pa_cons pe_str pa_nil)) pe_str (nomark _)) (pw_or (pt_cmpR op_ne (pe_call G__law_read (hr.mono (by first | decide | omega)) (by rfl) T.m__law_read T.k__law_read T.b__law_read .nil pass0 (pa_cons pe_str pa_nil)) pe_int (nomark _)) (pw_or1 (pt_cmpR op_ne (pe_call G__law_read (hr.mono (by first | decide | omega)) (by rfl) T.m__law_read T.k__law_read T.b__law_read .nil pass0 (pa_cons pe_str pa_nil)) pe_int (nomark _)))))) (pss_one (ps_ret pe_bl)) pss_nil)
    (pss_one (ps_ret (pe_and (pe_cmpR op_eq (pe_call G__law_read (hr.mono (by first | decide | omega)) (by rfl) T.m__law_read T.k__law_read T.b__law_read .nil pass0 (pa_cons pe_str pa_nil)) pe_int (nomark _)) (pe_one (pe_cmpR op_eq (pe_call G__law_read (hr.mono (by first | decide | omega)) (by rfl) T.m__law_read T.k__law_read T.b__law_read .nil pass0 (pa_cons pe_str pa_nil)) pe_int (nomark _)))))))), ?_⟩
    clear G__law_take G__law_box G__law_plan G__law_plan_text G__law_plan_of G__law_read G__law_bent G__law_due R_Plan_read R_peq
    refine ⟨_, rfl, _, _, rfl, .inl hS, _, _, rfl, _, _, rfl, _, rfl, ?_, ?_, ?_⟩
    · split <;> split <;> omega
    · split <;> split <;> omega
    refine for_range (fun i σ H2 => ∃ y1 y2 y3 y4 y5 y6 y7, σ = [some (.ref a), y1, y2, y3, y4, y5, y6, y7] ∧ Same H H2)
      ⟨none, none, none, none, none, none, none, rfl, Same.refl _⟩ (fun i0 σ H2 hi hP => ?_) (fun σ H2 hP => ?_)
    · obtain ⟨y1, y2, y3, y4, y5, y6, y7, rfl, s2⟩ := hP
      have i4 : i0 < 1000 := by
        revert hi
        split <;> split <;> omega
      refine ⟨_, rfl, _, rfl, a, ns, _, rfl, s2.seq hS, by omega, by omega, fun H3 b s3 nb B3 => ?_⟩
      have s03 := s2.trans s3
      have nb0 : H b = none := s2.free nb
      dsimp only [gName]
      clear hi
      have e9 := sizeLine_eq
      refine ⟨_, rfl, by decide, by decide, ?_⟩
      refine for_range (fun i σ Hy => ∃ y3 y4 y5 y6 y7, σ = [some (.ref a), some (.int (0 + (i0 : Int))), some (.ref b), y3, y4, y5, y6, y7] ∧ Box Hy b ∧ But b H Hy)
        ⟨y3, y4, y5, y6, y7, rfl, B3, But.of_same s03⟩ (fun i σ Hy hi hP => ?_) (fun σ Hy hP => ?_)
      · obtain ⟨y3, y4, y5, y6, y7, rfl, By, ky⟩ := hP
        clear hi
        dsimp only [gName]
        refine asg_go ?_
        refine ⟨_, rfl, b, 4, 2, 3, rfl, By, by decide, by decide, by decide, by decide, by decide, by decide, fun D H4 pD B4 k4 => ?_⟩
        dsimp only [gName]
        have k4' := ky.trans k4
        obtain ⟨neA, xs, hA, a0, a1, hxs⟩ := pD
        obtain ⟨dn, hdn⟩ := all_some fun x hx => (hxs x hx).v
        have ln := hdn.length
        have bis := di_all hdn
        have lx := planW_len (bw_all hdn)
        have ax := asc_plan bis
        have own := due_own bis
        have ne : dn ≠ [] := fun e => by rw [e] at ln; simp at ln; rw [ln] at a0; exact absurd a0 (by decide)
        refine asg_go ?_
        refine ⟨_, rfl, D, b, xs, dn, rfl, hA, hdn, by omega, fun H5 s5 => ?_⟩
        dsimp only [gName]
        refine seqif_go (or_go (tst_go ?_))
        refine ⟨_, rfl, planText dn, rfl, by omega, ax, fun _ H6 s6 => ?_, fun n hn => (by rw [own] at hn; cases hn)⟩
        refine ⟨_, rfl, rfl, _, rfl, ifF (by simp) (tst_go ?_)⟩
        refine ⟨rfl, _, rfl, planText dn, rfl, by omega, ax, fun ds u H7 _ et _ bi s7 hu => ?_, fun n hn => (by rw [own] at hn; cases hn)⟩
        have eds : ds = dn := plan_inj bi bis et
        subst eds
        have s57 := s5.trans (s6.trans s7)
        refine ⟨_, rfl, D, b, xs, ds, rfl, s57 _ _ hA, hdn.mono fun v d h => h.same s57, by omega, fun u2 H8 s8 pO2 => ?_⟩
        have pO1 := (hu.o ne).same s8
        obtain ⟨x1, d1, _, _, _, rfl, hx1, _, _⟩ := id pO1
        obtain ⟨x2, d2, _, _, _, rfl, hx2, _, _⟩ := id pO2
        refine ⟨x1, d1, _, _, rfl, hx1, T.I_Plan.ty T.C_Plan hx2, notFirst_self, _, _, rfl, .inl ⟨ds, pO1, .inl ⟨ds, pO2, fun H9 s9 => ⟨_, rfl, _, rfl, ifF (by simp) ?_⟩⟩⟩⟩
        dsimp only [tNext]
        have s59 := s57.trans (s8.trans s9)
        have B9 := B4.same s59
        have k9 := k4'.trans (But.of_same s59)
        refine ⟨_, rfl, by decide, by decide, ?_⟩
        have l236 : (planText ds).length ≤ 236 := by omega
        generalize planText ds = tx at ax l236 ⊢
        clear s59 pO1 pO2 hx1 hx2 hu s57 s5 s6 s7 s8 s9 bis own ne hdn hxs hA
        refine for_range (fun n σ Hz => ∃ x' y6 y7, σ = [some (.ref a), some (.int (0 + (i0 : Int))), some (.ref b), some (.int (0 + (i : Int))), some (.ref D), some (.str x'), y6, y7] ∧ x'.length ≤ 236 + 18 * n ∧ Asc x' ∧ Box Hz b ∧ But b H Hz)
          ⟨tx, y6, y7, rfl, ?_, ax, B9, k9⟩ (fun n σ Hz hn hP => ?_) (fun σ Hz hP => ?_)
        · omega
        · obtain ⟨x', y6, y7, rfl, lx', ax', Bz, kz⟩ := hP
          have hn : n < 3 := hn
          dsimp only [gName]
          refine asg_go ?_
          refine ⟨_, rfl, _, rfl, b, x', rfl, Bz, by omega, ax', fun y H10 ly ay B10 k10 => ?_⟩
          dsimp only [gName]
          have k10' := kz.trans k10
          have l300 : y.length ≤ 300 := by omega
          refine asg_go ?_
          refine ⟨_, rfl, y, rfl, l300, ay, fun H11 s11 => ?_⟩
          dsimp only [gName]
          refine ifs_go (tst_go ?_)
          have done : ∀ H12, Same H11 H12 → ∃ x' y6 y7', ([some (V.ref a), some (V.int (0 + (i0 : Int))), some (V.ref b), some (V.int (0 + (i : Int))), some (V.ref D), some (V.str y), some (V.int (0 + (n : Int))), some (V.int (dueI y))] : List (Option V)) = [some (.ref a), some (.int (0 + (i0 : Int))), some (.ref b), some (.int (0 + (i : Int))), some (.ref D), some (.str x'), y6, y7'] ∧ x'.length ≤ 236 + 18 * (n + 1) ∧ Asc x' ∧ Box H12 b ∧ But b H H12 := fun H12 s12 =>
            ⟨y, _, _, rfl, by omega, ay, B10.same (s11.trans s12), k10'.trans (But.of_same (s11.trans s12))⟩
          have dI : dueI y = match dueT y with | some n => (n : Int) | none => -1 := rfl
          refine ⟨_, rfl, y, rfl, l300, ay, fun f H12 s12 => ?_, fun m f H12 s12 => ?_⟩
          · rw [f] at dI
            refine ⟨.str y, .str y, rfl, .str _, rfl, rfl, Nat.zero_le 60, repr_small ay l300, ?_⟩
            refine ⟨_, rfl, _, _, rfl, rfl, _, rfl, ifT (by rw [dI]; rfl) ?_⟩
            refine ⟨_, rfl, .str y, .str y, rfl, .str _, rfl, rfl, Nat.zero_le 60, repr_small ay l300, rfl, _, rfl, ifF (by simp) ?_⟩
            exact done _ s12
          · rw [f] at dI
            have ml := dueT_le l300 f
            obtain ⟨m1, m2⟩ := show_nat ml
            refine ⟨.int m, .int m, rfl, .int _, m1, rfl, (by show 0 ≤ 60; decide), m2, ?_⟩
            refine ⟨_, rfl, _, _, rfl, rfl, _, rfl, ifF (by rw [dI]; exact decide_eq_false (Int.not_lt.mpr (Int.natCast_nonneg m))) ?_⟩
            refine ⟨_, rfl, .int (dueI y), .int m, rfl, by rw [dI]; exact .int _, m1, rfl, (by show 0 ≤ 60; decide), m2, rfl, _, rfl, ifF (by simp) ?_⟩
            exact done _ s12
        · obtain ⟨x', y6, y7, rfl, _, _, Bz, kz⟩ := hP
          exact ⟨_, _, _, _, _, rfl, Bz, kz⟩
      · obtain ⟨y3, y4, y5, y6, y7, rfl, By, ky⟩ := hP
        exact ⟨_, _, _, _, _, _, _, rfl, fun a o e => ky _ _ (ne_of_none e nb0) e⟩
    · obtain ⟨y1, y2, y3, y4, y5, y6, y7, rfl, s2⟩ := hP
      dsimp only
      have lit : ∀ {x : Str}, x.length ≤ 300 ∧ (TL.tl x).all (fun c => decide (c < 128)) = true → x.length ≤ 300 ∧ Asc x := fun h => ⟨h.1, asc_all h.2⟩
      obtain ⟨c1, c2⟩ := lit (x := Str.ofString "") (by decide +kernel)
      obtain ⟨c3, c4⟩ := lit (x := Str.ofString "rounds n") (by decide +kernel)
      obtain ⟨c5, c6⟩ := lit (x := Str.ofString "rounds n\nrounds n") (by decide +kernel)
      obtain ⟨c7, c8⟩ := lit (x := Str.ofString "up - 0 add") (by decide +kernel)
      obtain ⟨c9, c10⟩ := lit (x := Str.ofString "rounds n\nup - 0 add\n") (by decide +kernel)
      refine seqif_go (or_go (tst_go ?_))
      refine ⟨_, rfl, c1, c2, fun _ H3 s3 => ?_, fun n hn => (by rw [due_0] at hn; cases hn)⟩
      refine ⟨rfl, _, rfl, ifF (by simp) (or_go (tst_go ?_))⟩
      refine ⟨_, rfl, c3, c4, fun hn => (by rw [due_1] at hn; cases hn), fun n hn H4 s4 => ?_⟩
      rw [due_1] at hn
      cases hn
      refine ⟨rfl, _, rfl, ifF (by simp) (tst_go ?_)⟩
      refine ⟨_, rfl, c5, c6, fun hn => (by rw [due_2] at hn; cases hn), fun n hn H5 s5 => ?_⟩
      rw [due_2] at hn
      cases hn
      refine ⟨rfl, _, rfl, ifF (by simp) ?_⟩
      dsimp only [tNext]
      refine ret_go ?_
      refine ⟨_, rfl, c7, c8, fun hn => (by rw [due_3] at hn; cases hn), fun n hn H6 s6 => ?_⟩
      rw [due_3] at hn
      cases hn
      refine ⟨rfl, _, rfl, ifT (by decide) ?_⟩
      refine ⟨_, rfl, c9, c10, fun hn => (by rw [due_4] at hn; cases hn), fun n hn H7 s7 => ?_⟩
      rw [due_4] at hn
      cases hn
      exact ⟨rfl, k H7⟩

end
theorem all_mk {l : PySem.W.OpenLaw} {w : World} {K : PySem.W.Frag} {h : Heap} {mg : Str → Option Value} {fa : Addr} (X : K.In h) (G : h.Ns mainGlobals mg) (hfa : mg "law" = some (.ref fa))
    {C_RingError : Addr} (aC_RingError : PySem.W.nsIn K mainGlobals "RingError" = some (some (.ref C_RingError)))
    {C_InvalidForm : Addr} (aC_InvalidForm : PySem.W.nsIn K mainGlobals "InvalidForm" = some (some (.ref C_InvalidForm)))
    {nm_InvalidForm q_InvalidForm : Str} {N_InvalidForm : Addr} {bs_InvalidForm : List Value} {sn_InvalidForm : List Str} {sub_InvalidForm : List Value} {ab_InvalidForm : Bool} {col_InvalidForm : Option Bool} {dd_InvalidForm : Option Addr} {m0_InvalidForm m1_InvalidForm m2_InvalidForm m3_InvalidForm m5_InvalidForm : Option Value}
    (xL_InvalidForm : K.lookup C_InvalidForm = some (excClassObj nm_InvalidForm q_InvalidForm C_InvalidForm N_InvalidForm bs_InvalidForm [.ref C_RingError, .type "ValueError", .type "Exception", .type "BaseException", .type "object"] true sn_InvalidForm sub_InvalidForm ab_InvalidForm col_InvalidForm dd_InvalidForm m0_InvalidForm m1_InvalidForm m2_InvalidForm m3_InvalidForm m5_InvalidForm "ValueError.__new__"))
    (sa_InvalidForm : PySem.W.findIn K (.ref C_InvalidForm) "__setattr__" = some (some (.builtin "object.__setattr__")))
    (ga_InvalidForm : PySem.W.findIn K (.ref C_InvalidForm) "__getattribute__" = some (some (.builtin "BaseException.__getattribute__")))
    (gg_InvalidForm : PySem.W.findIn K (.ref C_InvalidForm) "__getattr__" = some none)
    (nw_InvalidForm : PySem.W.findIn K (.ref C_InvalidForm) "word" = some none)
    (ca_InvalidForm : PySem.W.findIn K (.ref C_InvalidForm) "__class__" = some (some (.builtin "object.__class__")))
    (kC_InvalidForm : PySem.W.keepIn K (.ref C_InvalidForm) = true)
    (eC_InvalidForm : PySem.W.subIn K (.ref C_InvalidForm) (.type "BaseException") = some true)
    (tC_InvalidForm : PySem.W.typeIn K (.ref C_InvalidForm) = some (.type "type"))
    (hC_InvalidForm : PySem.W.hasDictIn K C_InvalidForm = true)
    (sC_InvalidForm : PySem.W.subIn K (.ref C_InvalidForm) (.ref C_InvalidForm) = some true)
    (mo_InvalidForm : PySem.W.mroIn K C_InvalidForm (.type "object") = some true)
    (cl_InvalidForm : (PySem.W.clsIn K C_InvalidForm).isSome = true)
    {f0 : Addr} {od0 an0 : Option Addr} {sl0 : Array (Option Value)} {oc0 kV0 dc0 pm0 cd0 ct0 : Value}
    (l0 : K.lookup f0 = some ⟨oc0, od0, .func (PySem.W.fnOf "__init__" "InvalidForm.__init__" (defArgs s_InvalidForm___init__) (defBody s_InvalidForm___init__) (defScope s_InvalidForm___init__) .none kV0 dc0 pm0 an0 cd0 ct0), sl0⟩) (c0 : PySem.W.codeIn K cd0 "InvalidForm.__init__" = true) (k0 : PySem.W.keepIn K (.ref f0) = true)
    (iC_InvalidForm : PySem.W.findIn K (.ref C_InvalidForm) "__init__" = some (some (.ref f0))) (iT_InvalidForm : PySem.W.typeIn K (.ref f0) = some (.type "function"))
    {C_InvalidLane : Addr} (aC_InvalidLane : PySem.W.nsIn K mainGlobals "InvalidLane" = some (some (.ref C_InvalidLane)))
    {nm_InvalidLane q_InvalidLane : Str} {N_InvalidLane : Addr} {bs_InvalidLane : List Value} {sn_InvalidLane : List Str} {sub_InvalidLane : List Value} {ab_InvalidLane : Bool} {col_InvalidLane : Option Bool} {dd_InvalidLane : Option Addr} {m0_InvalidLane m1_InvalidLane m2_InvalidLane m3_InvalidLane m5_InvalidLane : Option Value}
    (xL_InvalidLane : K.lookup C_InvalidLane = some (excClassObj nm_InvalidLane q_InvalidLane C_InvalidLane N_InvalidLane bs_InvalidLane [.ref C_RingError, .type "ValueError", .type "Exception", .type "BaseException", .type "object"] true sn_InvalidLane sub_InvalidLane ab_InvalidLane col_InvalidLane dd_InvalidLane m0_InvalidLane m1_InvalidLane m2_InvalidLane m3_InvalidLane m5_InvalidLane "ValueError.__new__"))
    (sa_InvalidLane : PySem.W.findIn K (.ref C_InvalidLane) "__setattr__" = some (some (.builtin "object.__setattr__")))
    (ga_InvalidLane : PySem.W.findIn K (.ref C_InvalidLane) "__getattribute__" = some (some (.builtin "BaseException.__getattribute__")))
    (gg_InvalidLane : PySem.W.findIn K (.ref C_InvalidLane) "__getattr__" = some none)
    (nw_InvalidLane : PySem.W.findIn K (.ref C_InvalidLane) "word" = some none)
    (ca_InvalidLane : PySem.W.findIn K (.ref C_InvalidLane) "__class__" = some (some (.builtin "object.__class__")))
    (kC_InvalidLane : PySem.W.keepIn K (.ref C_InvalidLane) = true)
    (eC_InvalidLane : PySem.W.subIn K (.ref C_InvalidLane) (.type "BaseException") = some true)
    (tC_InvalidLane : PySem.W.typeIn K (.ref C_InvalidLane) = some (.type "type"))
    (hC_InvalidLane : PySem.W.hasDictIn K C_InvalidLane = true)
    (sC_InvalidLane : PySem.W.subIn K (.ref C_InvalidLane) (.ref C_InvalidLane) = some true)
    (mo_InvalidLane : PySem.W.mroIn K C_InvalidLane (.type "object") = some true)
    (cl_InvalidLane : (PySem.W.clsIn K C_InvalidLane).isSome = true)
    {f1 : Addr} {od1 an1 : Option Addr} {sl1 : Array (Option Value)} {oc1 kV1 dc1 pm1 cd1 ct1 : Value}
    (l1 : K.lookup f1 = some ⟨oc1, od1, .func (PySem.W.fnOf "__init__" "InvalidLane.__init__" (defArgs s_InvalidLane___init__) (defBody s_InvalidLane___init__) (defScope s_InvalidLane___init__) .none kV1 dc1 pm1 an1 cd1 ct1), sl1⟩) (c1 : PySem.W.codeIn K cd1 "InvalidLane.__init__" = true) (k1 : PySem.W.keepIn K (.ref f1) = true)
    (iC_InvalidLane : PySem.W.findIn K (.ref C_InvalidLane) "__init__" = some (some (.ref f1))) (iT_InvalidLane : PySem.W.typeIn K (.ref f1) = some (.type "function"))
    {C_InvalidBlock : Addr} (aC_InvalidBlock : PySem.W.nsIn K mainGlobals "InvalidBlock" = some (some (.ref C_InvalidBlock)))
    {nm_InvalidBlock q_InvalidBlock : Str} {N_InvalidBlock : Addr} {bs_InvalidBlock : List Value} {sn_InvalidBlock : List Str} {sub_InvalidBlock : List Value} {ab_InvalidBlock : Bool} {col_InvalidBlock : Option Bool} {dd_InvalidBlock : Option Addr} {m0_InvalidBlock m1_InvalidBlock m2_InvalidBlock m3_InvalidBlock m5_InvalidBlock : Option Value}
    (xL_InvalidBlock : K.lookup C_InvalidBlock = some (excClassObj nm_InvalidBlock q_InvalidBlock C_InvalidBlock N_InvalidBlock bs_InvalidBlock [.ref C_RingError, .type "ValueError", .type "Exception", .type "BaseException", .type "object"] true sn_InvalidBlock sub_InvalidBlock ab_InvalidBlock col_InvalidBlock dd_InvalidBlock m0_InvalidBlock m1_InvalidBlock m2_InvalidBlock m3_InvalidBlock m5_InvalidBlock "ValueError.__new__"))
    (sa_InvalidBlock : PySem.W.findIn K (.ref C_InvalidBlock) "__setattr__" = some (some (.builtin "object.__setattr__")))
    (ga_InvalidBlock : PySem.W.findIn K (.ref C_InvalidBlock) "__getattribute__" = some (some (.builtin "BaseException.__getattribute__")))
    (gg_InvalidBlock : PySem.W.findIn K (.ref C_InvalidBlock) "__getattr__" = some none)
    (nw_InvalidBlock : PySem.W.findIn K (.ref C_InvalidBlock) "word" = some none)
    (ca_InvalidBlock : PySem.W.findIn K (.ref C_InvalidBlock) "__class__" = some (some (.builtin "object.__class__")))
    (kC_InvalidBlock : PySem.W.keepIn K (.ref C_InvalidBlock) = true)
    (eC_InvalidBlock : PySem.W.subIn K (.ref C_InvalidBlock) (.type "BaseException") = some true)
    (tC_InvalidBlock : PySem.W.typeIn K (.ref C_InvalidBlock) = some (.type "type"))
    (hC_InvalidBlock : PySem.W.hasDictIn K C_InvalidBlock = true)
    (sC_InvalidBlock : PySem.W.subIn K (.ref C_InvalidBlock) (.ref C_InvalidBlock) = some true)
    (mo_InvalidBlock : PySem.W.mroIn K C_InvalidBlock (.type "object") = some true)
    (cl_InvalidBlock : (PySem.W.clsIn K C_InvalidBlock).isSome = true)
    {f2 : Addr} {od2 an2 : Option Addr} {sl2 : Array (Option Value)} {oc2 kV2 dc2 pm2 cd2 ct2 : Value}
    (l2 : K.lookup f2 = some ⟨oc2, od2, .func (PySem.W.fnOf "__init__" "InvalidBlock.__init__" (defArgs s_InvalidBlock___init__) (defBody s_InvalidBlock___init__) (defScope s_InvalidBlock___init__) .none kV2 dc2 pm2 an2 cd2 ct2), sl2⟩) (c2 : PySem.W.codeIn K cd2 "InvalidBlock.__init__" = true) (k2 : PySem.W.keepIn K (.ref f2) = true)
    (iC_InvalidBlock : PySem.W.findIn K (.ref C_InvalidBlock) "__init__" = some (some (.ref f2))) (iT_InvalidBlock : PySem.W.typeIn K (.ref f2) = some (.type "function"))
    {C_InvalidPlan : Addr} (aC_InvalidPlan : PySem.W.nsIn K mainGlobals "InvalidPlan" = some (some (.ref C_InvalidPlan)))
    {C_InvalidText : Addr} (aC_InvalidText : PySem.W.nsIn K mainGlobals "InvalidText" = some (some (.ref C_InvalidText)))
    {nm_InvalidText q_InvalidText : Str} {N_InvalidText : Addr} {bs_InvalidText : List Value} {sn_InvalidText : List Str} {sub_InvalidText : List Value} {ab_InvalidText : Bool} {col_InvalidText : Option Bool} {dd_InvalidText : Option Addr} {m0_InvalidText m1_InvalidText m2_InvalidText m3_InvalidText m5_InvalidText : Option Value}
    (xL_InvalidText : K.lookup C_InvalidText = some (excClassObj nm_InvalidText q_InvalidText C_InvalidText N_InvalidText bs_InvalidText [.ref C_RingError, .type "ValueError", .type "Exception", .type "BaseException", .type "object"] true sn_InvalidText sub_InvalidText ab_InvalidText col_InvalidText dd_InvalidText m0_InvalidText m1_InvalidText m2_InvalidText m3_InvalidText m5_InvalidText "ValueError.__new__"))
    (sa_InvalidText : PySem.W.findIn K (.ref C_InvalidText) "__setattr__" = some (some (.builtin "object.__setattr__")))
    (ga_InvalidText : PySem.W.findIn K (.ref C_InvalidText) "__getattribute__" = some (some (.builtin "BaseException.__getattribute__")))
    (gg_InvalidText : PySem.W.findIn K (.ref C_InvalidText) "__getattr__" = some none)
    (nw_InvalidText : PySem.W.findIn K (.ref C_InvalidText) "at" = some none)
    (ca_InvalidText : PySem.W.findIn K (.ref C_InvalidText) "__class__" = some (some (.builtin "object.__class__")))
    (kC_InvalidText : PySem.W.keepIn K (.ref C_InvalidText) = true)
    (eC_InvalidText : PySem.W.subIn K (.ref C_InvalidText) (.type "BaseException") = some true)
    (tC_InvalidText : PySem.W.typeIn K (.ref C_InvalidText) = some (.type "type"))
    (hC_InvalidText : PySem.W.hasDictIn K C_InvalidText = true)
    (sC_InvalidText : PySem.W.subIn K (.ref C_InvalidText) (.ref C_InvalidText) = some true)
    (mo_InvalidText : PySem.W.mroIn K C_InvalidText (.type "object") = some true)
    (cl_InvalidText : (PySem.W.clsIn K C_InvalidText).isSome = true)
    {f3 : Addr} {od3 an3 : Option Addr} {sl3 : Array (Option Value)} {oc3 kV3 dc3 pm3 cd3 ct3 : Value}
    (l3 : K.lookup f3 = some ⟨oc3, od3, .func (PySem.W.fnOf "__init__" "InvalidText.__init__" (defArgs s_InvalidText___init__) (defBody s_InvalidText___init__) (defScope s_InvalidText___init__) .none kV3 dc3 pm3 an3 cd3 ct3), sl3⟩) (c3 : PySem.W.codeIn K cd3 "InvalidText.__init__" = true) (k3 : PySem.W.keepIn K (.ref f3) = true)
    (iC_InvalidText : PySem.W.findIn K (.ref C_InvalidText) "__init__" = some (some (.ref f3))) (iT_InvalidText : PySem.W.typeIn K (.ref f3) = some (.type "function"))
    {C_Form : Addr} (aC_Form : PySem.W.nsIn K mainGlobals "Form" = some (some (.ref C_Form)))
    (pg_Form : PySem.W.plainGet K C_Form Str.empty = true)
    (hd_Form : PySem.W.hasDictIn K C_Form = true)
    (po_Form : PySem.W.plainOver K C_Form = true)
    (sa_Form : PySem.W.findIn K (.ref C_Form) "__setattr__" = some (some (.builtin "object.__setattr__")))
    (mk_Form : PySem.W.makesIn K C_Form = true)
    (kc_Form : PySem.W.keepIn K (.ref C_Form) = true)
    (n_times_Form : PySem.W.findIn K (.ref C_Form) "times" = some none)
    (n_plus_Form : PySem.W.findIn K (.ref C_Form) "plus" = some none)
    (n_by_Form : PySem.W.findIn K (.ref C_Form) "by" = some none)
    (fo_Form : PySem.W.findIn K (.ref C_Form) "__format__" = some (some (.builtin "object.__format__")))
    (cl_Form : (PySem.W.clsIn K C_Form).isSome = true)
    (tC_Form : PySem.W.typeIn K (.ref C_Form) = some (.type "type"))
    (ca_Form : PySem.W.findIn K (.ref C_Form) "__class__" = some (some (.builtin "object.__class__")))
    (mo_Form : PySem.W.mroIn K C_Form (.type "object") = some true)
    (nE_Form : PySem.W.findIn K (.ref C_Form) "__ne__" = some (some (.builtin "object.__ne__")))
    (mo_N_Form : PySem.W.mroIn K C_Form (.type "NoneType") = some false)
    (mo_S_Form : PySem.W.mroIn K C_Form (.type "str") = some false)
    (mo_T_Form : PySem.W.mroIn K C_Form (.type "tuple") = some false)
    (mo_L_Form : PySem.W.mroIn K C_Form (.type "list") = some false)
    (mo_I_Form : PySem.W.mroIn K C_Form (.type "int") = some false)
    {f4 : Addr} {od4 an4 : Option Addr} {sl4 : Array (Option Value)} {oc4 kV4 dc4 pm4 cd4 ct4 : Value}
    {T4 : Addr} {dd4 : Option Addr} {dn4 : Nat} {dsl4 : Array (Option Value)} {t4_0 : Tok} {t4_1 : Tok} {t4_2 : Tok}
    (t4 : K.lookup T4 = some ⟨.type "tuple", dd4, .seq [Value.int 0 t4_0, Value.int 0 t4_1, Value.int 1 t4_2].toArray dn4, dsl4⟩)
    (l4 : K.lookup f4 = some ⟨oc4, od4, .func (PySem.W.fnOf "__init__" "Form.__init__" (defArgs s_Form___init__) (defBody s_Form___init__) (defScope s_Form___init__) (.ref T4) kV4 dc4 pm4 an4 cd4 ct4), sl4⟩) (c4 : PySem.W.codeIn K cd4 "Form.__init__" = true) (k4 : PySem.W.keepIn K (.ref f4) = true)
    (a4 : PySem.W.findIn K (.ref C_Form) "__init__" = some (some (.ref f4))) (i4 : PySem.W.isFn K (.ref f4) = true)
    {f5 : Addr} {od5 an5 : Option Addr} {sl5 : Array (Option Value)} {oc5 kV5 dc5 pm5 cd5 ct5 : Value}
    (l5 : K.lookup f5 = some ⟨oc5, od5, .func (PySem.W.fnOf "__eq__" "Form.__eq__" (defArgs s_Form___eq__) (defBody s_Form___eq__) (defScope s_Form___eq__) .none kV5 dc5 pm5 an5 cd5 ct5), sl5⟩) (c5 : PySem.W.codeIn K cd5 "Form.__eq__" = true) (k5 : PySem.W.keepIn K (.ref f5) = true)
    (a5 : PySem.W.findIn K (.ref C_Form) "__eq__" = some (some (.ref f5))) (i5 : PySem.W.isFn K (.ref f5) = true)
    {f6 : Addr} {od6 an6 : Option Addr} {sl6 : Array (Option Value)} {oc6 kV6 dc6 pm6 cd6 ct6 : Value}
    (l6 : K.lookup f6 = some ⟨oc6, od6, .func (PySem.W.fnOf "__str__" "Form.__str__" (defArgs s_Form___str__) (defBody s_Form___str__) (defScope s_Form___str__) .none kV6 dc6 pm6 an6 cd6 ct6), sl6⟩) (c6 : PySem.W.codeIn K cd6 "Form.__str__" = true) (k6 : PySem.W.keepIn K (.ref f6) = true)
    (a6 : PySem.W.findIn K (.ref C_Form) "__str__" = some (some (.ref f6))) (i6 : PySem.W.isFn K (.ref f6) = true)
    {f7 : Addr} {od7 an7 : Option Addr} {sl7 : Array (Option Value)} {oc7 kV7 dc7 pm7 cd7 ct7 : Value}
    (l7 : K.lookup f7 = some ⟨oc7, od7, .func (PySem.W.fnOf "read" "Form.read" (defArgs s_Form_read) (defBody s_Form_read) (defScope s_Form_read) .none kV7 dc7 pm7 an7 cd7 ct7), sl7⟩) (c7 : PySem.W.codeIn K cd7 "Form.read" = true) (k7 : PySem.W.keepIn K (.ref f7) = true)
    (cr_Form : PySem.W.readsIn K C_Form (.type "type") = true) (cg_Form : PySem.W.specialIn K (.ref C_Form) "__getattribute__" = some (some (.builtin "type.__getattribute__")))
    {pA7 : Addr} {pR7 : List Value} (pm7 : PySem.W.findCls K (.ref C_Form) (.type "type") "read" = some (.get (.builtin "classmethod.__get__") (.ref pA7) .none (.ref C_Form))) (pr7 : PySem.W.recIn K pA7 "classmethod" = some (.ref f7 :: pR7)) (pf7 : PySem.W.fnIn K f7 = true)
    {C_Lane : Addr} (aC_Lane : PySem.W.nsIn K mainGlobals "Lane" = some (some (.ref C_Lane)))
    (pg_Lane : PySem.W.plainGet K C_Lane Str.empty = true)
    (hd_Lane : PySem.W.hasDictIn K C_Lane = true)
    (po_Lane : PySem.W.plainOver K C_Lane = true)
    (sa_Lane : PySem.W.findIn K (.ref C_Lane) "__setattr__" = some (some (.builtin "object.__setattr__")))
    (mk_Lane : PySem.W.makesIn K C_Lane = true)
    (kc_Lane : PySem.W.keepIn K (.ref C_Lane) = true)
    (n_way_Lane : PySem.W.findIn K (.ref C_Lane) "way" = some none)
    (n_sign_Lane : PySem.W.findIn K (.ref C_Lane) "sign" = some none)
    (n_shift_Lane : PySem.W.findIn K (.ref C_Lane) "shift" = some none)
    (n_deed_Lane : PySem.W.findIn K (.ref C_Lane) "deed" = some none)
    (cl_Lane : (PySem.W.clsIn K C_Lane).isSome = true)
    (tC_Lane : PySem.W.typeIn K (.ref C_Lane) = some (.type "type"))
    (ca_Lane : PySem.W.findIn K (.ref C_Lane) "__class__" = some (some (.builtin "object.__class__")))
    (mo_Lane : PySem.W.mroIn K C_Lane (.type "object") = some true)
    (nE_Lane : PySem.W.findIn K (.ref C_Lane) "__ne__" = some (some (.builtin "object.__ne__")))
    (mo_N_Lane : PySem.W.mroIn K C_Lane (.type "NoneType") = some false)
    (mo_S_Lane : PySem.W.mroIn K C_Lane (.type "str") = some false)
    (mo_T_Lane : PySem.W.mroIn K C_Lane (.type "tuple") = some false)
    (mo_L_Lane : PySem.W.mroIn K C_Lane (.type "list") = some false)
    (mo_I_Lane : PySem.W.mroIn K C_Lane (.type "int") = some false)
    {f8 : Addr} {od8 an8 : Option Addr} {sl8 : Array (Option Value)} {oc8 kV8 dc8 pm8 cd8 ct8 : Value}
    (l8 : K.lookup f8 = some ⟨oc8, od8, .func (PySem.W.fnOf "__init__" "Lane.__init__" (defArgs s_Lane___init__) (defBody s_Lane___init__) (defScope s_Lane___init__) .none kV8 dc8 pm8 an8 cd8 ct8), sl8⟩) (c8 : PySem.W.codeIn K cd8 "Lane.__init__" = true) (k8 : PySem.W.keepIn K (.ref f8) = true)
    (a8 : PySem.W.findIn K (.ref C_Lane) "__init__" = some (some (.ref f8))) (i8 : PySem.W.isFn K (.ref f8) = true)
    {f9 : Addr} {od9 an9 : Option Addr} {sl9 : Array (Option Value)} {oc9 kV9 dc9 pm9 cd9 ct9 : Value}
    (l9 : K.lookup f9 = some ⟨oc9, od9, .func (PySem.W.fnOf "__eq__" "Lane.__eq__" (defArgs s_Lane___eq__) (defBody s_Lane___eq__) (defScope s_Lane___eq__) .none kV9 dc9 pm9 an9 cd9 ct9), sl9⟩) (c9 : PySem.W.codeIn K cd9 "Lane.__eq__" = true) (k9 : PySem.W.keepIn K (.ref f9) = true)
    (a9 : PySem.W.findIn K (.ref C_Lane) "__eq__" = some (some (.ref f9))) (i9 : PySem.W.isFn K (.ref f9) = true)
    {f10 : Addr} {od10 an10 : Option Addr} {sl10 : Array (Option Value)} {oc10 kV10 dc10 pm10 cd10 ct10 : Value}
    (l10 : K.lookup f10 = some ⟨oc10, od10, .func (PySem.W.fnOf "__str__" "Lane.__str__" (defArgs s_Lane___str__) (defBody s_Lane___str__) (defScope s_Lane___str__) .none kV10 dc10 pm10 an10 cd10 ct10), sl10⟩) (c10 : PySem.W.codeIn K cd10 "Lane.__str__" = true) (k10 : PySem.W.keepIn K (.ref f10) = true)
    (a10 : PySem.W.findIn K (.ref C_Lane) "__str__" = some (some (.ref f10))) (i10 : PySem.W.isFn K (.ref f10) = true)
    {C_Block : Addr} (aC_Block : PySem.W.nsIn K mainGlobals "Block" = some (some (.ref C_Block)))
    (pg_Block : PySem.W.plainGet K C_Block Str.empty = true)
    (hd_Block : PySem.W.hasDictIn K C_Block = true)
    (po_Block : PySem.W.plainOver K C_Block = true)
    (sa_Block : PySem.W.findIn K (.ref C_Block) "__setattr__" = some (some (.builtin "object.__setattr__")))
    (mk_Block : PySem.W.makesIn K C_Block = true)
    (kc_Block : PySem.W.keepIn K (.ref C_Block) = true)
    (n_rounds_Block : PySem.W.findIn K (.ref C_Block) "rounds" = some none)
    (n_lanes_Block : PySem.W.findIn K (.ref C_Block) "lanes" = some none)
    (cl_Block : (PySem.W.clsIn K C_Block).isSome = true)
    (tC_Block : PySem.W.typeIn K (.ref C_Block) = some (.type "type"))
    (ca_Block : PySem.W.findIn K (.ref C_Block) "__class__" = some (some (.builtin "object.__class__")))
    (mo_Block : PySem.W.mroIn K C_Block (.type "object") = some true)
    (nE_Block : PySem.W.findIn K (.ref C_Block) "__ne__" = some (some (.builtin "object.__ne__")))
    (mo_N_Block : PySem.W.mroIn K C_Block (.type "NoneType") = some false)
    (mo_S_Block : PySem.W.mroIn K C_Block (.type "str") = some false)
    (mo_T_Block : PySem.W.mroIn K C_Block (.type "tuple") = some false)
    (mo_L_Block : PySem.W.mroIn K C_Block (.type "list") = some false)
    (mo_I_Block : PySem.W.mroIn K C_Block (.type "int") = some false)
    {f11 : Addr} {od11 an11 : Option Addr} {sl11 : Array (Option Value)} {oc11 kV11 dc11 pm11 cd11 ct11 : Value}
    (l11 : K.lookup f11 = some ⟨oc11, od11, .func (PySem.W.fnOf "__init__" "Block.__init__" (defArgs s_Block___init__) (defBody s_Block___init__) (defScope s_Block___init__) .none kV11 dc11 pm11 an11 cd11 ct11), sl11⟩) (c11 : PySem.W.codeIn K cd11 "Block.__init__" = true) (k11 : PySem.W.keepIn K (.ref f11) = true)
    (a11 : PySem.W.findIn K (.ref C_Block) "__init__" = some (some (.ref f11))) (i11 : PySem.W.isFn K (.ref f11) = true)
    {f12 : Addr} {od12 an12 : Option Addr} {sl12 : Array (Option Value)} {oc12 kV12 dc12 pm12 cd12 ct12 : Value}
    (l12 : K.lookup f12 = some ⟨oc12, od12, .func (PySem.W.fnOf "__eq__" "Block.__eq__" (defArgs s_Block___eq__) (defBody s_Block___eq__) (defScope s_Block___eq__) .none kV12 dc12 pm12 an12 cd12 ct12), sl12⟩) (c12 : PySem.W.codeIn K cd12 "Block.__eq__" = true) (k12 : PySem.W.keepIn K (.ref f12) = true)
    (a12 : PySem.W.findIn K (.ref C_Block) "__eq__" = some (some (.ref f12))) (i12 : PySem.W.isFn K (.ref f12) = true)
    {f13 : Addr} {od13 an13 : Option Addr} {sl13 : Array (Option Value)} {oc13 kV13 dc13 pm13 cd13 ct13 : Value}
    (l13 : K.lookup f13 = some ⟨oc13, od13, .func (PySem.W.fnOf "__str__" "Block.__str__" (defArgs s_Block___str__) (defBody s_Block___str__) (defScope s_Block___str__) .none kV13 dc13 pm13 an13 cd13 ct13), sl13⟩) (c13 : PySem.W.codeIn K cd13 "Block.__str__" = true) (k13 : PySem.W.keepIn K (.ref f13) = true)
    (a13 : PySem.W.findIn K (.ref C_Block) "__str__" = some (some (.ref f13))) (i13 : PySem.W.isFn K (.ref f13) = true)
    {C_Plan : Addr} (aC_Plan : PySem.W.nsIn K mainGlobals "Plan" = some (some (.ref C_Plan)))
    (pg_Plan : PySem.W.plainGet K C_Plan Str.empty = true)
    (hd_Plan : PySem.W.hasDictIn K C_Plan = true)
    (po_Plan : PySem.W.plainOver K C_Plan = true)
    (sa_Plan : PySem.W.findIn K (.ref C_Plan) "__setattr__" = some (some (.builtin "object.__setattr__")))
    (mk_Plan : PySem.W.makesIn K C_Plan = true)
    (kc_Plan : PySem.W.keepIn K (.ref C_Plan) = true)
    (n_blocks_Plan : PySem.W.findIn K (.ref C_Plan) "blocks" = some none)
    (n_found_Plan : PySem.W.findIn K (.ref C_Plan) "found" = some none)
    (cl_Plan : (PySem.W.clsIn K C_Plan).isSome = true)
    (tC_Plan : PySem.W.typeIn K (.ref C_Plan) = some (.type "type"))
    (ca_Plan : PySem.W.findIn K (.ref C_Plan) "__class__" = some (some (.builtin "object.__class__")))
    (mo_Plan : PySem.W.mroIn K C_Plan (.type "object") = some true)
    (nE_Plan : PySem.W.findIn K (.ref C_Plan) "__ne__" = some (some (.builtin "object.__ne__")))
    (mo_N_Plan : PySem.W.mroIn K C_Plan (.type "NoneType") = some false)
    (mo_S_Plan : PySem.W.mroIn K C_Plan (.type "str") = some false)
    (mo_T_Plan : PySem.W.mroIn K C_Plan (.type "tuple") = some false)
    (mo_L_Plan : PySem.W.mroIn K C_Plan (.type "list") = some false)
    (mo_I_Plan : PySem.W.mroIn K C_Plan (.type "int") = some false)
    {f14 : Addr} {od14 an14 : Option Addr} {sl14 : Array (Option Value)} {oc14 kV14 dc14 pm14 cd14 ct14 : Value}
    {T14 : Addr} {dd14 : Option Addr} {dn14 : Nat} {dsl14 : Array (Option Value)} {eD_Plan___init___0 : Addr}
    (t14 : K.lookup T14 = some ⟨.type "tuple", dd14, .seq [Value.ref eD_Plan___init___0].toArray dn14, dsl14⟩)
    (l14 : K.lookup f14 = some ⟨oc14, od14, .func (PySem.W.fnOf "__init__" "Plan.__init__" (defArgs s_Plan___init__) (defBody s_Plan___init__) (defScope s_Plan___init__) (.ref T14) kV14 dc14 pm14 an14 cd14 ct14), sl14⟩) (c14 : PySem.W.codeIn K cd14 "Plan.__init__" = true) (k14 : PySem.W.keepIn K (.ref f14) = true)
    {eC_Plan___init___0 : Option Addr} {eN_Plan___init___0 : Nat} {eS_Plan___init___0 : Array (Option Value)} (lD_Plan___init___0 : K.lookup eD_Plan___init___0 = some ⟨.type "tuple", eC_Plan___init___0, .seq ([] : List Value).toArray eN_Plan___init___0, eS_Plan___init___0⟩)
    (a14 : PySem.W.findIn K (.ref C_Plan) "__init__" = some (some (.ref f14))) (i14 : PySem.W.isFn K (.ref f14) = true)
    {f15 : Addr} {od15 an15 : Option Addr} {sl15 : Array (Option Value)} {oc15 kV15 dc15 pm15 cd15 ct15 : Value}
    (l15 : K.lookup f15 = some ⟨oc15, od15, .func (PySem.W.fnOf "__eq__" "Plan.__eq__" (defArgs s_Plan___eq__) (defBody s_Plan___eq__) (defScope s_Plan___eq__) .none kV15 dc15 pm15 an15 cd15 ct15), sl15⟩) (c15 : PySem.W.codeIn K cd15 "Plan.__eq__" = true) (k15 : PySem.W.keepIn K (.ref f15) = true)
    (a15 : PySem.W.findIn K (.ref C_Plan) "__eq__" = some (some (.ref f15))) (i15 : PySem.W.isFn K (.ref f15) = true)
    {f16 : Addr} {od16 an16 : Option Addr} {sl16 : Array (Option Value)} {oc16 kV16 dc16 pm16 cd16 ct16 : Value}
    (l16 : K.lookup f16 = some ⟨oc16, od16, .func (PySem.W.fnOf "__str__" "Plan.__str__" (defArgs s_Plan___str__) (defBody s_Plan___str__) (defScope s_Plan___str__) .none kV16 dc16 pm16 an16 cd16 ct16), sl16⟩) (c16 : PySem.W.codeIn K cd16 "Plan.__str__" = true) (k16 : PySem.W.keepIn K (.ref f16) = true)
    (a16 : PySem.W.findIn K (.ref C_Plan) "__str__" = some (some (.ref f16))) (i16 : PySem.W.isFn K (.ref f16) = true)
    {f17 : Addr} {od17 an17 : Option Addr} {sl17 : Array (Option Value)} {oc17 kV17 dc17 pm17 cd17 ct17 : Value}
    (l17 : K.lookup f17 = some ⟨oc17, od17, .func (PySem.W.fnOf "read" "Plan.read" (defArgs s_Plan_read) (defBody s_Plan_read) (defScope s_Plan_read) .none kV17 dc17 pm17 an17 cd17 ct17), sl17⟩) (c17 : PySem.W.codeIn K cd17 "Plan.read" = true) (k17 : PySem.W.keepIn K (.ref f17) = true)
    (cr_Plan : PySem.W.readsIn K C_Plan (.type "type") = true) (cg_Plan : PySem.W.specialIn K (.ref C_Plan) "__getattribute__" = some (some (.builtin "type.__getattribute__")))
    {pA17 : Addr} {pR17 : List Value} (pm17 : PySem.W.findCls K (.ref C_Plan) (.type "type") "read" = some (.get (.builtin "classmethod.__get__") (.ref pA17) .none (.ref C_Plan))) (pr17 : PySem.W.recIn K pA17 "classmethod" = some (.ref f17 :: pR17)) (pf17 : PySem.W.fnIn K f17 = true)
    (spec : PySem.W.specialIn K (.builtin "object.__class__") "__get__" = some (some (.builtin "getset_descriptor.__get__"))) (takes : PySem.W.takesIn K (.builtin "object.__class__") = some true)
    (kit_InvalidText_RingError : PySem.W.kitOne K (.ref C_InvalidText) (.ref C_RingError) = some true)
    (kit_InvalidText_InvalidForm : PySem.W.kitOne K (.ref C_InvalidText) (.ref C_InvalidForm) = some false)
    (kit_InvalidText_InvalidPlan : PySem.W.kitOne K (.ref C_InvalidText) (.ref C_InvalidPlan) = some false)
    (kit_InvalidText_InvalidLane : PySem.W.kitOne K (.ref C_InvalidText) (.ref C_InvalidLane) = some false)
    (kit_InvalidLane_InvalidText : PySem.W.kitOne K (.ref C_InvalidLane) (.ref C_InvalidText) = some false)
    (kit_Lane_Form : PySem.W.kitOne K (.ref C_Lane) (.ref C_Form) = some false)
    (kit_Block_Lane : PySem.W.kitOne K (.ref C_Block) (.ref C_Lane) = some false)
    {A_WAYS : Addr} {dd_WAYS : Option Addr} {n_WAYS : Nat} {sl_WAYS : Array (Option Value)} {t_WAYS0 : Tok} {t_WAYS1 : Tok}
    (a_WAYS : PySem.W.nsIn K mainGlobals "WAYS" = some (some (.ref A_WAYS))) (l_WAYS : K.lookup A_WAYS = some ⟨.type "tuple", dd_WAYS, .seq [Value.str "up" t_WAYS0, Value.str "down" t_WAYS1].toArray n_WAYS, sl_WAYS⟩)
    {A_SIGNS : Addr} {dd_SIGNS : Option Addr} {n_SIGNS : Nat} {sl_SIGNS : Array (Option Value)} {t_SIGNS0 : Tok} {t_SIGNS1 : Tok}
    (a_SIGNS : PySem.W.nsIn K mainGlobals "SIGNS" = some (some (.ref A_SIGNS))) (l_SIGNS : K.lookup A_SIGNS = some ⟨.type "tuple", dd_SIGNS, .seq [Value.str "+" t_SIGNS0, Value.str "-" t_SIGNS1].toArray n_SIGNS, sl_SIGNS⟩)
    {A_DEEDS : Addr} {dd_DEEDS : Option Addr} {n_DEEDS : Nat} {sl_DEEDS : Array (Option Value)} {t_DEEDS0 : Tok} {t_DEEDS1 : Tok}
    (a_DEEDS : PySem.W.nsIn K mainGlobals "DEEDS" = some (some (.ref A_DEEDS))) (l_DEEDS : K.lookup A_DEEDS = some ⟨.type "tuple", dd_DEEDS, .seq [Value.str "add" t_DEEDS0, Value.str "put" t_DEEDS1].toArray n_DEEDS, sl_DEEDS⟩)
    {f18 : Addr} {od18 an18 : Option Addr} {sl18 : Array (Option Value)} {oc18 kV18 dc18 pm18 cd18 ct18 : Value}
    (l18 : K.lookup f18 = some ⟨oc18, od18, .func (PySem.W.fnOf "is_whole" "is_whole" (defArgs s_is_whole) (defBody s_is_whole) (defScope s_is_whole) .none kV18 dc18 pm18 an18 cd18 ct18), sl18⟩) (c18 : PySem.W.codeIn K cd18 "is_whole" = true) (k18 : PySem.W.keepIn K (.ref f18) = true)
    (a18 : PySem.W.nsIn K mainGlobals "is_whole" = some (some (.ref f18)))
    {f19 : Addr} {od19 an19 : Option Addr} {sl19 : Array (Option Value)} {oc19 kV19 dc19 pm19 cd19 ct19 : Value}
    (l19 : K.lookup f19 = some ⟨oc19, od19, .func (PySem.W.fnOf "is_sequence" "is_sequence" (defArgs s_is_sequence) (defBody s_is_sequence) (defScope s_is_sequence) .none kV19 dc19 pm19 an19 cd19 ct19), sl19⟩) (c19 : PySem.W.codeIn K cd19 "is_sequence" = true) (k19 : PySem.W.keepIn K (.ref f19) = true)
    (a19 : PySem.W.nsIn K mainGlobals "is_sequence" = some (some (.ref f19)))
    {f20 : Addr} {od20 an20 : Option Addr} {sl20 : Array (Option Value)} {oc20 kV20 dc20 pm20 cd20 ct20 : Value}
    (l20 : K.lookup f20 = some ⟨oc20, od20, .func (PySem.W.fnOf "whole_in" "whole_in" (defArgs s_whole_in) (defBody s_whole_in) (defScope s_whole_in) .none kV20 dc20 pm20 an20 cd20 ct20), sl20⟩) (c20 : PySem.W.codeIn K cd20 "whole_in" = true) (k20 : PySem.W.keepIn K (.ref f20) = true)
    (a20 : PySem.W.nsIn K mainGlobals "whole_in" = some (some (.ref f20)))
    {f21 : Addr} {od21 an21 : Option Addr} {sl21 : Array (Option Value)} {oc21 kV21 dc21 pm21 cd21 ct21 : Value}
    (l21 : K.lookup f21 = some ⟨oc21, od21, .func (PySem.W.fnOf "_text" "_text" (defArgs s__text) (defBody s__text) (defScope s__text) .none kV21 dc21 pm21 an21 cd21 ct21), sl21⟩) (c21 : PySem.W.codeIn K cd21 "_text" = true) (k21 : PySem.W.keepIn K (.ref f21) = true)
    (a21 : PySem.W.nsIn K mainGlobals "_text" = some (some (.ref f21)))
    {f22 : Addr} {od22 an22 : Option Addr} {sl22 : Array (Option Value)} {oc22 kV22 dc22 pm22 cd22 ct22 : Value}
    (l22 : K.lookup f22 = some ⟨oc22, od22, .func (PySem.W.fnOf "_upper" "_upper" (defArgs s__upper) (defBody s__upper) (defScope s__upper) .none kV22 dc22 pm22 an22 cd22 ct22), sl22⟩) (c22 : PySem.W.codeIn K cd22 "_upper" = true) (k22 : PySem.W.keepIn K (.ref f22) = true)
    (a22 : PySem.W.nsIn K mainGlobals "_upper" = some (some (.ref f22)))
    {f23 : Addr} {od23 an23 : Option Addr} {sl23 : Array (Option Value)} {oc23 kV23 dc23 pm23 cd23 ct23 : Value}
    (l23 : K.lookup f23 = some ⟨oc23, od23, .func (PySem.W.fnOf "_parts" "_parts" (defArgs s__parts) (defBody s__parts) (defScope s__parts) .none kV23 dc23 pm23 an23 cd23 ct23), sl23⟩) (c23 : PySem.W.codeIn K cd23 "_parts" = true) (k23 : PySem.W.keepIn K (.ref f23) = true)
    (a23 : PySem.W.nsIn K mainGlobals "_parts" = some (some (.ref f23)))
    {f24 : Addr} {od24 an24 : Option Addr} {sl24 : Array (Option Value)} {oc24 kV24 dc24 pm24 cd24 ct24 : Value}
    (l24 : K.lookup f24 = some ⟨oc24, od24, .func (PySem.W.fnOf "_upper_parts" "_upper_parts" (defArgs s__upper_parts) (defBody s__upper_parts) (defScope s__upper_parts) .none kV24 dc24 pm24 an24 cd24 ct24), sl24⟩) (c24 : PySem.W.codeIn K cd24 "_upper_parts" = true) (k24 : PySem.W.keepIn K (.ref f24) = true)
    (a24 : PySem.W.nsIn K mainGlobals "_upper_parts" = some (some (.ref f24)))
    {f25 : Addr} {od25 an25 : Option Addr} {sl25 : Array (Option Value)} {oc25 kV25 dc25 pm25 cd25 ct25 : Value}
    (l25 : K.lookup f25 = some ⟨oc25, od25, .func (PySem.W.fnOf "_factor" "_factor" (defArgs s__factor) (defBody s__factor) (defScope s__factor) .none kV25 dc25 pm25 an25 cd25 ct25), sl25⟩) (c25 : PySem.W.codeIn K cd25 "_factor" = true) (k25 : PySem.W.keepIn K (.ref f25) = true)
    (a25 : PySem.W.nsIn K mainGlobals "_factor" = some (some (.ref f25)))
    {f26 : Addr} {od26 an26 : Option Addr} {sl26 : Array (Option Value)} {oc26 kV26 dc26 pm26 cd26 ct26 : Value}
    (l26 : K.lookup f26 = some ⟨oc26, od26, .func (PySem.W.fnOf "_blocks_in" "_blocks_in" (defArgs s__blocks_in) (defBody s__blocks_in) (defScope s__blocks_in) .none kV26 dc26 pm26 an26 cd26 ct26), sl26⟩) (c26 : PySem.W.codeIn K cd26 "_blocks_in" = true) (k26 : PySem.W.keepIn K (.ref f26) = true)
    (a26 : PySem.W.nsIn K mainGlobals "_blocks_in" = some (some (.ref f26)))
    {f27 : Addr} {od27 an27 : Option Addr} {sl27 : Array (Option Value)} {oc27 kV27 dc27 pm27 cd27 ct27 : Value}
    (l27 : K.lookup f27 = some ⟨oc27, od27, .func (PySem.W.fnOf "_rounds_in" "_rounds_in" (defArgs s__rounds_in) (defBody s__rounds_in) (defScope s__rounds_in) .none kV27 dc27 pm27 an27 cd27 ct27), sl27⟩) (c27 : PySem.W.codeIn K cd27 "_rounds_in" = true) (k27 : PySem.W.keepIn K (.ref f27) = true)
    (a27 : PySem.W.nsIn K mainGlobals "_rounds_in" = some (some (.ref f27)))
    {f28 : Addr} {od28 an28 : Option Addr} {sl28 : Array (Option Value)} {oc28 kV28 dc28 pm28 cd28 ct28 : Value}
    (l28 : K.lookup f28 = some ⟨oc28, od28, .func (PySem.W.fnOf "_lane_in" "_lane_in" (defArgs s__lane_in) (defBody s__lane_in) (defScope s__lane_in) .none kV28 dc28 pm28 an28 cd28 ct28), sl28⟩) (c28 : PySem.W.codeIn K cd28 "_lane_in" = true) (k28 : PySem.W.keepIn K (.ref f28) = true)
    (a28 : PySem.W.nsIn K mainGlobals "_lane_in" = some (some (.ref f28)))
    {f29 : Addr} {od29 an29 : Option Addr} {sl29 : Array (Option Value)} {oc29 kV29 dc29 pm29 cd29 ct29 : Value}
    (l29 : K.lookup f29 = some ⟨oc29, od29, .func (PySem.W.fnOf "_law_box" "_law_box" (defArgs s__law_box) (defBody s__law_box) (defScope s__law_box) .none kV29 dc29 pm29 an29 cd29 ct29), sl29⟩) (c29 : PySem.W.codeIn K cd29 "_law_box" = true) (k29 : PySem.W.keepIn K (.ref f29) = true)
    (a29 : PySem.W.nsIn K mainGlobals "_law_box" = some (some (.ref f29)))
    {f30 : Addr} {od30 an30 : Option Addr} {sl30 : Array (Option Value)} {oc30 kV30 dc30 pm30 cd30 ct30 : Value}
    (l30 : K.lookup f30 = some ⟨oc30, od30, .func (PySem.W.fnOf "_law_take" "_law_take" (defArgs s__law_take) (defBody s__law_take) (defScope s__law_take) .none kV30 dc30 pm30 an30 cd30 ct30), sl30⟩) (c30 : PySem.W.codeIn K cd30 "_law_take" = true) (k30 : PySem.W.keepIn K (.ref f30) = true)
    (a30 : PySem.W.nsIn K mainGlobals "_law_take" = some (some (.ref f30)))
    {f31 : Addr} {od31 an31 : Option Addr} {sl31 : Array (Option Value)} {oc31 kV31 dc31 pm31 cd31 ct31 : Value}
    (l31 : K.lookup f31 = some ⟨oc31, od31, .func (PySem.W.fnOf "_law_pick" "_law_pick" (defArgs s__law_pick) (defBody s__law_pick) (defScope s__law_pick) .none kV31 dc31 pm31 an31 cd31 ct31), sl31⟩) (c31 : PySem.W.codeIn K cd31 "_law_pick" = true) (k31 : PySem.W.keepIn K (.ref f31) = true)
    (a31 : PySem.W.nsIn K mainGlobals "_law_pick" = some (some (.ref f31)))
    {f32 : Addr} {od32 an32 : Option Addr} {sl32 : Array (Option Value)} {oc32 kV32 dc32 pm32 cd32 ct32 : Value}
    (l32 : K.lookup f32 = some ⟨oc32, od32, .func (PySem.W.fnOf "_law_form" "_law_form" (defArgs s__law_form) (defBody s__law_form) (defScope s__law_form) .none kV32 dc32 pm32 an32 cd32 ct32), sl32⟩) (c32 : PySem.W.codeIn K cd32 "_law_form" = true) (k32 : PySem.W.keepIn K (.ref f32) = true)
    (a32 : PySem.W.nsIn K mainGlobals "_law_form" = some (some (.ref f32)))
    {f33 : Addr} {od33 an33 : Option Addr} {sl33 : Array (Option Value)} {oc33 kV33 dc33 pm33 cd33 ct33 : Value}
    (l33 : K.lookup f33 = some ⟨oc33, od33, .func (PySem.W.fnOf "_law_form_text" "_law_form_text" (defArgs s__law_form_text) (defBody s__law_form_text) (defScope s__law_form_text) .none kV33 dc33 pm33 an33 cd33 ct33), sl33⟩) (c33 : PySem.W.codeIn K cd33 "_law_form_text" = true) (k33 : PySem.W.keepIn K (.ref f33) = true)
    (a33 : PySem.W.nsIn K mainGlobals "_law_form_text" = some (some (.ref f33)))
    {f34 : Addr} {od34 an34 : Option Addr} {sl34 : Array (Option Value)} {oc34 kV34 dc34 pm34 cd34 ct34 : Value}
    (l34 : K.lookup f34 = some ⟨oc34, od34, .func (PySem.W.fnOf "_law_lane" "_law_lane" (defArgs s__law_lane) (defBody s__law_lane) (defScope s__law_lane) .none kV34 dc34 pm34 an34 cd34 ct34), sl34⟩) (c34 : PySem.W.codeIn K cd34 "_law_lane" = true) (k34 : PySem.W.keepIn K (.ref f34) = true)
    (a34 : PySem.W.nsIn K mainGlobals "_law_lane" = some (some (.ref f34)))
    {f35 : Addr} {od35 an35 : Option Addr} {sl35 : Array (Option Value)} {oc35 kV35 dc35 pm35 cd35 ct35 : Value}
    (l35 : K.lookup f35 = some ⟨oc35, od35, .func (PySem.W.fnOf "_law_block" "_law_block" (defArgs s__law_block) (defBody s__law_block) (defScope s__law_block) .none kV35 dc35 pm35 an35 cd35 ct35), sl35⟩) (c35 : PySem.W.codeIn K cd35 "_law_block" = true) (k35 : PySem.W.keepIn K (.ref f35) = true)
    (a35 : PySem.W.nsIn K mainGlobals "_law_block" = some (some (.ref f35)))
    {f36 : Addr} {od36 an36 : Option Addr} {sl36 : Array (Option Value)} {oc36 kV36 dc36 pm36 cd36 ct36 : Value}
    (l36 : K.lookup f36 = some ⟨oc36, od36, .func (PySem.W.fnOf "_law_known_plan" "_law_known_plan" (defArgs s__law_known_plan) (defBody s__law_known_plan) (defScope s__law_known_plan) .none kV36 dc36 pm36 an36 cd36 ct36), sl36⟩) (c36 : PySem.W.codeIn K cd36 "_law_known_plan" = true) (k36 : PySem.W.keepIn K (.ref f36) = true)
    (a36 : PySem.W.nsIn K mainGlobals "_law_known_plan" = some (some (.ref f36)))
    {f37 : Addr} {od37 an37 : Option Addr} {sl37 : Array (Option Value)} {oc37 kV37 dc37 pm37 cd37 ct37 : Value}
    (l37 : K.lookup f37 = some ⟨oc37, od37, .func (PySem.W.fnOf "_law_plan" "_law_plan" (defArgs s__law_plan) (defBody s__law_plan) (defScope s__law_plan) .none kV37 dc37 pm37 an37 cd37 ct37), sl37⟩) (c37 : PySem.W.codeIn K cd37 "_law_plan" = true) (k37 : PySem.W.keepIn K (.ref f37) = true)
    (a37 : PySem.W.nsIn K mainGlobals "_law_plan" = some (some (.ref f37)))
    {f38 : Addr} {od38 an38 : Option Addr} {sl38 : Array (Option Value)} {oc38 kV38 dc38 pm38 cd38 ct38 : Value}
    (l38 : K.lookup f38 = some ⟨oc38, od38, .func (PySem.W.fnOf "_law_lane_text" "_law_lane_text" (defArgs s__law_lane_text) (defBody s__law_lane_text) (defScope s__law_lane_text) .none kV38 dc38 pm38 an38 cd38 ct38), sl38⟩) (c38 : PySem.W.codeIn K cd38 "_law_lane_text" = true) (k38 : PySem.W.keepIn K (.ref f38) = true)
    (a38 : PySem.W.nsIn K mainGlobals "_law_lane_text" = some (some (.ref f38)))
    {f39 : Addr} {od39 an39 : Option Addr} {sl39 : Array (Option Value)} {oc39 kV39 dc39 pm39 cd39 ct39 : Value}
    (l39 : K.lookup f39 = some ⟨oc39, od39, .func (PySem.W.fnOf "_law_plan_text" "_law_plan_text" (defArgs s__law_plan_text) (defBody s__law_plan_text) (defScope s__law_plan_text) .none kV39 dc39 pm39 an39 cd39 ct39), sl39⟩) (c39 : PySem.W.codeIn K cd39 "_law_plan_text" = true) (k39 : PySem.W.keepIn K (.ref f39) = true)
    (a39 : PySem.W.nsIn K mainGlobals "_law_plan_text" = some (some (.ref f39)))
    {f40 : Addr} {od40 an40 : Option Addr} {sl40 : Array (Option Value)} {oc40 kV40 dc40 pm40 cd40 ct40 : Value}
    (l40 : K.lookup f40 = some ⟨oc40, od40, .func (PySem.W.fnOf "_law_lane_of" "_law_lane_of" (defArgs s__law_lane_of) (defBody s__law_lane_of) (defScope s__law_lane_of) .none kV40 dc40 pm40 an40 cd40 ct40), sl40⟩) (c40 : PySem.W.codeIn K cd40 "_law_lane_of" = true) (k40 : PySem.W.keepIn K (.ref f40) = true)
    (a40 : PySem.W.nsIn K mainGlobals "_law_lane_of" = some (some (.ref f40)))
    {f41 : Addr} {od41 an41 : Option Addr} {sl41 : Array (Option Value)} {oc41 kV41 dc41 pm41 cd41 ct41 : Value}
    (l41 : K.lookup f41 = some ⟨oc41, od41, .func (PySem.W.fnOf "_law_plan_of" "_law_plan_of" (defArgs s__law_plan_of) (defBody s__law_plan_of) (defScope s__law_plan_of) .none kV41 dc41 pm41 an41 cd41 ct41), sl41⟩) (c41 : PySem.W.codeIn K cd41 "_law_plan_of" = true) (k41 : PySem.W.keepIn K (.ref f41) = true)
    (a41 : PySem.W.nsIn K mainGlobals "_law_plan_of" = some (some (.ref f41)))
    {f42 : Addr} {od42 an42 : Option Addr} {sl42 : Array (Option Value)} {oc42 kV42 dc42 pm42 cd42 ct42 : Value}
    (l42 : K.lookup f42 = some ⟨oc42, od42, .func (PySem.W.fnOf "_law_has_form" "_law_has_form" (defArgs s__law_has_form) (defBody s__law_has_form) (defScope s__law_has_form) .none kV42 dc42 pm42 an42 cd42 ct42), sl42⟩) (c42 : PySem.W.codeIn K cd42 "_law_has_form" = true) (k42 : PySem.W.keepIn K (.ref f42) = true)
    (a42 : PySem.W.nsIn K mainGlobals "_law_has_form" = some (some (.ref f42)))
    {f43 : Addr} {od43 an43 : Option Addr} {sl43 : Array (Option Value)} {oc43 kV43 dc43 pm43 cd43 ct43 : Value}
    (l43 : K.lookup f43 = some ⟨oc43, od43, .func (PySem.W.fnOf "_law_sort" "_law_sort" (defArgs s__law_sort) (defBody s__law_sort) (defScope s__law_sort) .none kV43 dc43 pm43 an43 cd43 ct43), sl43⟩) (c43 : PySem.W.codeIn K cd43 "_law_sort" = true) (k43 : PySem.W.keepIn K (.ref f43) = true)
    (a43 : PySem.W.nsIn K mainGlobals "_law_sort" = some (some (.ref f43)))
    {f44 : Addr} {od44 an44 : Option Addr} {sl44 : Array (Option Value)} {oc44 kV44 dc44 pm44 cd44 ct44 : Value}
    (l44 : K.lookup f44 = some ⟨oc44, od44, .func (PySem.W.fnOf "_law_due" "_law_due" (defArgs s__law_due) (defBody s__law_due) (defScope s__law_due) .none kV44 dc44 pm44 an44 cd44 ct44), sl44⟩) (c44 : PySem.W.codeIn K cd44 "_law_due" = true) (k44 : PySem.W.keepIn K (.ref f44) = true)
    (a44 : PySem.W.nsIn K mainGlobals "_law_due" = some (some (.ref f44)))
    {f45 : Addr} {od45 an45 : Option Addr} {sl45 : Array (Option Value)} {oc45 kV45 dc45 pm45 cd45 ct45 : Value}
    (l45 : K.lookup f45 = some ⟨oc45, od45, .func (PySem.W.fnOf "_law_bent" "_law_bent" (defArgs s__law_bent) (defBody s__law_bent) (defScope s__law_bent) .none kV45 dc45 pm45 an45 cd45 ct45), sl45⟩) (c45 : PySem.W.codeIn K cd45 "_law_bent" = true) (k45 : PySem.W.keepIn K (.ref f45) = true)
    (a45 : PySem.W.nsIn K mainGlobals "_law_bent" = some (some (.ref f45)))
    {f46 : Addr} {od46 an46 : Option Addr} {sl46 : Array (Option Value)} {oc46 kV46 dc46 pm46 cd46 ct46 : Value}
    (l46 : K.lookup f46 = some ⟨oc46, od46, .func (PySem.W.fnOf "_law_read" "_law_read" (defArgs s__law_read) (defBody s__law_read) (defScope s__law_read) .none kV46 dc46 pm46 an46 cd46 ct46), sl46⟩) (c46 : PySem.W.codeIn K cd46 "_law_read" = true) (k46 : PySem.W.keepIn K (.ref f46) = true)
    (a46 : PySem.W.nsIn K mainGlobals "_law_read" = some (some (.ref f46)))
    {f47 : Addr} {od47 an47 : Option Addr} {sl47 : Array (Option Value)} {oc47 kV47 dc47 pm47 cd47 ct47 : Value}
    (l47 : K.lookup f47 = some ⟨oc47, od47, .func (PySem.W.fnOf "law" "law" (defArgs s_law) (defBody s_law) (defScope s_law) .none kV47 dc47 pm47 an47 cd47 ct47), sl47⟩) (c47 : PySem.W.codeIn K cd47 "law" = true) (k47 : PySem.W.keepIn K (.ref f47) = true)
    (a47 : PySem.W.nsIn K mainGlobals "law" = some (some (.ref f47)))
    (z_abs : PySem.W.nsIn K mainGlobals "abs" = some none)
    (z_all : PySem.W.nsIn K mainGlobals "all" = some none)
    (z_bool : PySem.W.nsIn K mainGlobals "bool" = some none)
    (z_enumerate : PySem.W.nsIn K mainGlobals "enumerate" = some none)
    (z_int : PySem.W.nsIn K mainGlobals "int" = some none)
    (z_isinstance : PySem.W.nsIn K mainGlobals "isinstance" = some none)
    (z_len : PySem.W.nsIn K mainGlobals "len" = some none)
    (z_list : PySem.W.nsIn K mainGlobals "list" = some none)
    (z_max : PySem.W.nsIn K mainGlobals "max" = some none)
    (z_min : PySem.W.nsIn K mainGlobals "min" = some none)
    (z_range : PySem.W.nsIn K mainGlobals "range" = some none)
    (z_repr : PySem.W.nsIn K mainGlobals "repr" = some none)
    (z_str : PySem.W.nsIn K mainGlobals "str" = some none)
    (z_tuple : PySem.W.nsIn K mainGlobals "tuple" = some none)
    : ∃ fd : FuncData, (∀ (s : Shared) (v : Value), BindsTo s fd ⟨[v], []⟩ [("_law_script", v)]) ∧ ∀ base : Heap, K.In base → base.Ns mainGlobals mg → At callerA l.prog w K mg base CX0 16 fa ["_law_script"] fd (spLaw K) := by
  have e := hfa.symm.trans (PySem.W.mg_of X G a47)
  cases e
  let T : Txt K mg := {
    c_RingError := C_RingError, m_RingError := PySem.W.mg_of X G aC_RingError,
    c_InvalidForm := C_InvalidForm, m_InvalidForm := PySem.W.mg_of X G aC_InvalidForm,
    a_InvalidForm___init__ := f0, d_InvalidForm___init__ := _, F_InvalidForm___init__ := fun_mk (st := s_InvalidForm___init__) l0 c0 k0, b_InvalidForm___init__ := (fun_mk (st := s_InvalidForm___init__) l0 c0 k0).binds (ps := ["self", "word"]) (fun _ _ _ _ _ _ us hl => match us, hl with | [_, _], _ => rfl), k_InvalidForm___init__ := k0,
    x_InvalidForm := ⟨⟨_, _, _, _, _, _, _, _, _, _, _, _, _, _, _, xL_InvalidForm, by first | rfl | decide +kernel⟩, sa_InvalidForm, eC_InvalidForm, tC_InvalidForm, kC_InvalidForm⟩, X_InvalidForm := ⟨cl_InvalidForm, ga_InvalidForm, gg_InvalidForm, eC_InvalidForm, ca_InvalidForm, spec, takes, mo_InvalidForm⟩, f_InvalidForm := ⟨ga_InvalidForm, gg_InvalidForm, eC_InvalidForm, hC_InvalidForm⟩,
    n_InvalidForm := nw_InvalidForm, i_InvalidForm := iC_InvalidForm, t_InvalidForm := iT_InvalidForm, e_InvalidForm := PySem.W.exm_ref eC_InvalidForm hC_InvalidForm tC_InvalidForm sC_InvalidForm,
    c_InvalidLane := C_InvalidLane, m_InvalidLane := PySem.W.mg_of X G aC_InvalidLane,
    a_InvalidLane___init__ := f1, d_InvalidLane___init__ := _, F_InvalidLane___init__ := fun_mk (st := s_InvalidLane___init__) l1 c1 k1, b_InvalidLane___init__ := (fun_mk (st := s_InvalidLane___init__) l1 c1 k1).binds (ps := ["self", "word"]) (fun _ _ _ _ _ _ us hl => match us, hl with | [_, _], _ => rfl), k_InvalidLane___init__ := k1,
    x_InvalidLane := ⟨⟨_, _, _, _, _, _, _, _, _, _, _, _, _, _, _, xL_InvalidLane, by first | rfl | decide +kernel⟩, sa_InvalidLane, eC_InvalidLane, tC_InvalidLane, kC_InvalidLane⟩, X_InvalidLane := ⟨cl_InvalidLane, ga_InvalidLane, gg_InvalidLane, eC_InvalidLane, ca_InvalidLane, spec, takes, mo_InvalidLane⟩, f_InvalidLane := ⟨ga_InvalidLane, gg_InvalidLane, eC_InvalidLane, hC_InvalidLane⟩,
    n_InvalidLane := nw_InvalidLane, i_InvalidLane := iC_InvalidLane, t_InvalidLane := iT_InvalidLane, e_InvalidLane := PySem.W.exm_ref eC_InvalidLane hC_InvalidLane tC_InvalidLane sC_InvalidLane,
    c_InvalidBlock := C_InvalidBlock, m_InvalidBlock := PySem.W.mg_of X G aC_InvalidBlock,
    a_InvalidBlock___init__ := f2, d_InvalidBlock___init__ := _, F_InvalidBlock___init__ := fun_mk (st := s_InvalidBlock___init__) l2 c2 k2, b_InvalidBlock___init__ := (fun_mk (st := s_InvalidBlock___init__) l2 c2 k2).binds (ps := ["self", "word"]) (fun _ _ _ _ _ _ us hl => match us, hl with | [_, _], _ => rfl), k_InvalidBlock___init__ := k2,
    x_InvalidBlock := ⟨⟨_, _, _, _, _, _, _, _, _, _, _, _, _, _, _, xL_InvalidBlock, by first | rfl | decide +kernel⟩, sa_InvalidBlock, eC_InvalidBlock, tC_InvalidBlock, kC_InvalidBlock⟩, X_InvalidBlock := ⟨cl_InvalidBlock, ga_InvalidBlock, gg_InvalidBlock, eC_InvalidBlock, ca_InvalidBlock, spec, takes, mo_InvalidBlock⟩, f_InvalidBlock := ⟨ga_InvalidBlock, gg_InvalidBlock, eC_InvalidBlock, hC_InvalidBlock⟩,
    n_InvalidBlock := nw_InvalidBlock, i_InvalidBlock := iC_InvalidBlock, t_InvalidBlock := iT_InvalidBlock, e_InvalidBlock := PySem.W.exm_ref eC_InvalidBlock hC_InvalidBlock tC_InvalidBlock sC_InvalidBlock,
    c_InvalidPlan := C_InvalidPlan, m_InvalidPlan := PySem.W.mg_of X G aC_InvalidPlan,
    c_InvalidText := C_InvalidText, m_InvalidText := PySem.W.mg_of X G aC_InvalidText,
    a_InvalidText___init__ := f3, d_InvalidText___init__ := _, F_InvalidText___init__ := fun_mk (st := s_InvalidText___init__) l3 c3 k3, b_InvalidText___init__ := (fun_mk (st := s_InvalidText___init__) l3 c3 k3).binds (ps := ["self", "at"]) (fun _ _ _ _ _ _ us hl => match us, hl with | [_, _], _ => rfl), k_InvalidText___init__ := k3,
    x_InvalidText := ⟨⟨_, _, _, _, _, _, _, _, _, _, _, _, _, _, _, xL_InvalidText, by first | rfl | decide +kernel⟩, sa_InvalidText, eC_InvalidText, tC_InvalidText, kC_InvalidText⟩, X_InvalidText := ⟨cl_InvalidText, ga_InvalidText, gg_InvalidText, eC_InvalidText, ca_InvalidText, spec, takes, mo_InvalidText⟩, f_InvalidText := ⟨ga_InvalidText, gg_InvalidText, eC_InvalidText, hC_InvalidText⟩,
    n_InvalidText := nw_InvalidText, i_InvalidText := iC_InvalidText, t_InvalidText := iT_InvalidText, e_InvalidText := PySem.W.exm_ref eC_InvalidText hC_InvalidText tC_InvalidText sC_InvalidText,
    c_Form := C_Form, m_Form := PySem.W.mg_of X G aC_Form,
    C_Form := ⟨pg_Form, hd_Form, po_Form, sa_Form⟩,
    n_Form_times := n_times_Form,
    n_Form_plus := n_plus_Form,
    n_Form_by := n_by_Form,
    F_Form := ⟨fo_Form, mo_Form⟩,
    I_Form := ⟨cl_Form, tC_Form, ca_Form, spec, takes, mo_Form⟩, N_Form := ⟨mo_N_Form, mo_S_Form, mo_T_Form, mo_L_Form, mo_I_Form⟩,
    a_Form___init__ := f4, d_Form___init__ := _, F_Form___init__ := (show FunD K "__init__" "Form.__init__" (defArgs s_Form___init__) (defBody s_Form___init__) (defScope s_Form___init__) [(.int 0), (.int 0), (.int 1)] [] _ _ from ⟨⟨_, _, _, _, _, _, _, _, _, _, rfl, l4, c4, .inr ⟨by simp, _, _, [Value.int 0 t4_0, Value.int 0 t4_1, Value.int 1 t4_2], _, rfl, t4, rfl, by repeat (first | exact .nil | refine .cons ⟨_, rfl⟩ ?_ | refine .cons rfl ?_)⟩, .inl rfl⟩, k4⟩), b_Form___init__ := (by obtain ⟨ds, rv, bb⟩ := (show FunD K "__init__" "Form.__init__" (defArgs s_Form___init__) (defBody s_Form___init__) (defScope s_Form___init__) [(.int 0), (.int 0), (.int 1)] [] _ _ from ⟨⟨_, _, _, _, _, _, _, _, _, _, rfl, l4, c4, .inr ⟨by simp, _, _, [Value.int 0 t4_0, Value.int 0 t4_1, Value.int 1 t4_2], _, rfl, t4, rfl, by repeat (first | exact .nil | refine .cons ⟨_, rfl⟩ ?_ | refine .cons rfl ?_)⟩, .inl rfl⟩, k4⟩).binds1 (ps := ["self", "times", "plus", "by"]) 4 3 (by simp) rfl (fun _ _ _ _ _ _ _ us its hl hi => match us, its, hl, hi with | [_, _, _, _], [_, _, _], _, _ => ⟨_, rfl, rfl⟩); cases rv; exact bb), k_Form___init__ := k4,
    D_Form___init__ := (show FunD K "__init__" "Form.__init__" (defArgs s_Form___init__) (defBody s_Form___init__) (defScope s_Form___init__) [(.int 0), (.int 0), (.int 1)] [] _ _ from ⟨⟨_, _, _, _, _, _, _, _, _, _, rfl, l4, c4, .inr ⟨by simp, _, _, [Value.int 0 t4_0, Value.int 0 t4_1, Value.int 1 t4_2], _, rfl, t4, rfl, by repeat (first | exact .nil | refine .cons ⟨_, rfl⟩ ?_ | refine .cons rfl ?_)⟩, .inl rfl⟩, k4⟩).binds1 (ps := ["self", "times", "plus", "by"]) 1 0 (by simp) rfl (fun _ _ _ _ _ _ _ us its hl hi => match us, its, hl, hi with | [_], [_, _, _], _, _ => ⟨_, rfl, rfl⟩),
    D1_Form___init__ := (show FunD K "__init__" "Form.__init__" (defArgs s_Form___init__) (defBody s_Form___init__) (defScope s_Form___init__) [(.int 0), (.int 0), (.int 1)] [] _ _ from ⟨⟨_, _, _, _, _, _, _, _, _, _, rfl, l4, c4, .inr ⟨by simp, _, _, [Value.int 0 t4_0, Value.int 0 t4_1, Value.int 1 t4_2], _, rfl, t4, rfl, by repeat (first | exact .nil | refine .cons ⟨_, rfl⟩ ?_ | refine .cons rfl ?_)⟩, .inl rfl⟩, k4⟩).binds1 (ps := ["self", "times", "plus", "by"]) 2 1 (by simp) rfl (fun _ _ _ _ _ _ _ us its hl hi => match us, its, hl, hi with | [_, _], [_, _, _], _, _ => ⟨_, rfl, rfl⟩),
    D2_Form___init__ := (show FunD K "__init__" "Form.__init__" (defArgs s_Form___init__) (defBody s_Form___init__) (defScope s_Form___init__) [(.int 0), (.int 0), (.int 1)] [] _ _ from ⟨⟨_, _, _, _, _, _, _, _, _, _, rfl, l4, c4, .inr ⟨by simp, _, _, [Value.int 0 t4_0, Value.int 0 t4_1, Value.int 1 t4_2], _, rfl, t4, rfl, by repeat (first | exact .nil | refine .cons ⟨_, rfl⟩ ?_ | refine .cons rfl ?_)⟩, .inl rfl⟩, k4⟩).binds1 (ps := ["self", "times", "plus", "by"]) 3 2 (by simp) rfl (fun _ _ _ _ _ _ _ us its hl hi => match us, its, hl, hi with | [_, _, _], [_, _, _], _, _ => ⟨_, rfl, rfl⟩),
    M_Form := ⟨mk_Form, a4, i4, kc_Form⟩,
    a_Form___eq__ := f5, d_Form___eq__ := _, F_Form___eq__ := fun_mk (st := s_Form___eq__) l5 c5 k5, b_Form___eq__ := (fun_mk (st := s_Form___eq__) l5 c5 k5).binds (ps := ["self", "other"]) (fun _ _ _ _ _ _ us hl => match us, hl with | [_, _], _ => rfl), k_Form___eq__ := k5,
    O_Form := ⟨a5, i5, nE_Form, mo_Form⟩,
    a_Form___str__ := f6, d_Form___str__ := _, F_Form___str__ := fun_mk (st := s_Form___str__) l6 c6 k6, b_Form___str__ := (fun_mk (st := s_Form___str__) l6 c6 k6).binds (ps := ["self"]) (fun _ _ _ _ _ _ us hl => match us, hl with | [_], _ => rfl), k_Form___str__ := k6,
    M_Form___str__ := ⟨a6, i6, k6⟩,
    a_Form_read := f7, d_Form_read := _, F_Form_read := fun_mk (st := s_Form_read) l7 c7 k7, b_Form_read := (fun_mk (st := s_Form_read) l7 c7 k7).binds (ps := ["cls", "text"]) (fun _ _ _ _ _ _ us hl => match us, hl with | [_, _], _ => rfl), k_Form_read := k7,
    R_Form := ⟨cr_Form, cg_Form⟩,
    p_Form_read := pA7, G_Form_read := ⟨pm7, ⟨_, pr7⟩, pf7⟩,
    c_Lane := C_Lane, m_Lane := PySem.W.mg_of X G aC_Lane,
    C_Lane := ⟨pg_Lane, hd_Lane, po_Lane, sa_Lane⟩,
    n_Lane_way := n_way_Lane,
    n_Lane_sign := n_sign_Lane,
    n_Lane_shift := n_shift_Lane,
    n_Lane_deed := n_deed_Lane,
    I_Lane := ⟨cl_Lane, tC_Lane, ca_Lane, spec, takes, mo_Lane⟩, N_Lane := ⟨mo_N_Lane, mo_S_Lane, mo_T_Lane, mo_L_Lane, mo_I_Lane⟩,
    a_Lane___init__ := f8, d_Lane___init__ := _, F_Lane___init__ := fun_mk (st := s_Lane___init__) l8 c8 k8, b_Lane___init__ := (fun_mk (st := s_Lane___init__) l8 c8 k8).binds (ps := ["self", "way", "sign", "shift", "deed"]) (fun _ _ _ _ _ _ us hl => match us, hl with | [_, _, _, _, _], _ => rfl), k_Lane___init__ := k8,
    M_Lane := ⟨mk_Lane, a8, i8, kc_Lane⟩,
    a_Lane___eq__ := f9, d_Lane___eq__ := _, F_Lane___eq__ := fun_mk (st := s_Lane___eq__) l9 c9 k9, b_Lane___eq__ := (fun_mk (st := s_Lane___eq__) l9 c9 k9).binds (ps := ["self", "other"]) (fun _ _ _ _ _ _ us hl => match us, hl with | [_, _], _ => rfl), k_Lane___eq__ := k9,
    O_Lane := ⟨a9, i9, nE_Lane, mo_Lane⟩,
    a_Lane___str__ := f10, d_Lane___str__ := _, F_Lane___str__ := fun_mk (st := s_Lane___str__) l10 c10 k10, b_Lane___str__ := (fun_mk (st := s_Lane___str__) l10 c10 k10).binds (ps := ["self"]) (fun _ _ _ _ _ _ us hl => match us, hl with | [_], _ => rfl), k_Lane___str__ := k10,
    M_Lane___str__ := ⟨a10, i10, k10⟩,
    c_Block := C_Block, m_Block := PySem.W.mg_of X G aC_Block,
    C_Block := ⟨pg_Block, hd_Block, po_Block, sa_Block⟩,
    n_Block_rounds := n_rounds_Block,
    n_Block_lanes := n_lanes_Block,
    I_Block := ⟨cl_Block, tC_Block, ca_Block, spec, takes, mo_Block⟩, N_Block := ⟨mo_N_Block, mo_S_Block, mo_T_Block, mo_L_Block, mo_I_Block⟩,
    a_Block___init__ := f11, d_Block___init__ := _, F_Block___init__ := fun_mk (st := s_Block___init__) l11 c11 k11, b_Block___init__ := (fun_mk (st := s_Block___init__) l11 c11 k11).binds (ps := ["self", "rounds", "lanes"]) (fun _ _ _ _ _ _ us hl => match us, hl with | [_, _, _], _ => rfl), k_Block___init__ := k11,
    M_Block := ⟨mk_Block, a11, i11, kc_Block⟩,
    a_Block___eq__ := f12, d_Block___eq__ := _, F_Block___eq__ := fun_mk (st := s_Block___eq__) l12 c12 k12, b_Block___eq__ := (fun_mk (st := s_Block___eq__) l12 c12 k12).binds (ps := ["self", "other"]) (fun _ _ _ _ _ _ us hl => match us, hl with | [_, _], _ => rfl), k_Block___eq__ := k12,
    O_Block := ⟨a12, i12, nE_Block, mo_Block⟩,
    a_Block___str__ := f13, d_Block___str__ := _, F_Block___str__ := fun_mk (st := s_Block___str__) l13 c13 k13, b_Block___str__ := (fun_mk (st := s_Block___str__) l13 c13 k13).binds (ps := ["self"]) (fun _ _ _ _ _ _ us hl => match us, hl with | [_], _ => rfl), k_Block___str__ := k13,
    M_Block___str__ := ⟨a13, i13, k13⟩,
    c_Plan := C_Plan, m_Plan := PySem.W.mg_of X G aC_Plan,
    C_Plan := ⟨pg_Plan, hd_Plan, po_Plan, sa_Plan⟩,
    n_Plan_blocks := n_blocks_Plan,
    n_Plan_found := n_found_Plan,
    I_Plan := ⟨cl_Plan, tC_Plan, ca_Plan, spec, takes, mo_Plan⟩, N_Plan := ⟨mo_N_Plan, mo_S_Plan, mo_T_Plan, mo_L_Plan, mo_I_Plan⟩,
    e_Plan___init___0 := eD_Plan___init___0,
    a_Plan___init__ := f14, d_Plan___init__ := _, F_Plan___init__ := (show FunD K "__init__" "Plan.__init__" (defArgs s_Plan___init__) (defBody s_Plan___init__) (defScope s_Plan___init__) [(.ref eD_Plan___init___0)] [] _ _ from ⟨⟨_, _, _, _, _, _, _, _, _, _, rfl, l14, c14, .inr ⟨by simp, _, _, [Value.ref eD_Plan___init___0], _, rfl, t14, rfl, by repeat (first | exact .nil | refine .cons ⟨_, rfl⟩ ?_ | refine .cons rfl ?_)⟩, .inl rfl⟩, k14⟩), b_Plan___init__ := (by obtain ⟨ds, rv, bb⟩ := (show FunD K "__init__" "Plan.__init__" (defArgs s_Plan___init__) (defBody s_Plan___init__) (defScope s_Plan___init__) [(.ref eD_Plan___init___0)] [] _ _ from ⟨⟨_, _, _, _, _, _, _, _, _, _, rfl, l14, c14, .inr ⟨by simp, _, _, [Value.ref eD_Plan___init___0], _, rfl, t14, rfl, by repeat (first | exact .nil | refine .cons ⟨_, rfl⟩ ?_ | refine .cons rfl ?_)⟩, .inl rfl⟩, k14⟩).binds1 (ps := ["self", "blocks"]) 2 1 (by simp) rfl (fun _ _ _ _ _ _ _ us its hl hi => match us, its, hl, hi with | [_, _], [_], _, _ => ⟨_, rfl, rfl⟩); cases rv; exact bb), k_Plan___init__ := k14,
    D_Plan___init__ := (show FunD K "__init__" "Plan.__init__" (defArgs s_Plan___init__) (defBody s_Plan___init__) (defScope s_Plan___init__) [(.ref eD_Plan___init___0)] [] _ _ from ⟨⟨_, _, _, _, _, _, _, _, _, _, rfl, l14, c14, .inr ⟨by simp, _, _, [Value.ref eD_Plan___init___0], _, rfl, t14, rfl, by repeat (first | exact .nil | refine .cons ⟨_, rfl⟩ ?_ | refine .cons rfl ?_)⟩, .inl rfl⟩, k14⟩).binds1 (ps := ["self", "blocks"]) 1 0 (by simp) rfl (fun _ _ _ _ _ _ _ us its hl hi => match us, its, hl, hi with | [_], [_], _, _ => ⟨_, rfl, rfl⟩),
    E_Plan___init___0 := fun H => .inr ⟨_, _, _, lD_Plan___init___0, rfl, rfl, by show 0 ≤ sizeLine; decide, .nil⟩,
    M_Plan := ⟨mk_Plan, a14, i14, kc_Plan⟩,
    a_Plan___eq__ := f15, d_Plan___eq__ := _, F_Plan___eq__ := fun_mk (st := s_Plan___eq__) l15 c15 k15, b_Plan___eq__ := (fun_mk (st := s_Plan___eq__) l15 c15 k15).binds (ps := ["self", "other"]) (fun _ _ _ _ _ _ us hl => match us, hl with | [_, _], _ => rfl), k_Plan___eq__ := k15,
    O_Plan := ⟨a15, i15, nE_Plan, mo_Plan⟩,
    a_Plan___str__ := f16, d_Plan___str__ := _, F_Plan___str__ := fun_mk (st := s_Plan___str__) l16 c16 k16, b_Plan___str__ := (fun_mk (st := s_Plan___str__) l16 c16 k16).binds (ps := ["self"]) (fun _ _ _ _ _ _ us hl => match us, hl with | [_], _ => rfl), k_Plan___str__ := k16,
    M_Plan___str__ := ⟨a16, i16, k16⟩,
    a_Plan_read := f17, d_Plan_read := _, F_Plan_read := fun_mk (st := s_Plan_read) l17 c17 k17, b_Plan_read := (fun_mk (st := s_Plan_read) l17 c17 k17).binds (ps := ["cls", "text"]) (fun _ _ _ _ _ _ us hl => match us, hl with | [_, _], _ => rfl), k_Plan_read := k17,
    R_Plan := ⟨cr_Plan, cg_Plan⟩,
    p_Plan_read := pA17, G_Plan_read := ⟨pm17, ⟨_, pr17⟩, pf17⟩,
    kit_InvalidText_RingError := kit_InvalidText_RingError,
    kit_InvalidText_InvalidForm := kit_InvalidText_InvalidForm,
    kit_InvalidText_InvalidPlan := kit_InvalidText_InvalidPlan,
    kit_InvalidText_InvalidLane := kit_InvalidText_InvalidLane,
    kit_InvalidLane_InvalidText := kit_InvalidLane_InvalidText,
    kit_Lane_Form := kit_Lane_Form,
    kit_Block_Lane := kit_Block_Lane,
    A_WAYS := A_WAYS, m_WAYS := PySem.W.mg_of X G a_WAYS, s_WAYS := fun H => .inr ⟨_, _, _, l_WAYS, rfl, rfl, by show 2 ≤ sizeLine; decide, by repeat (first | exact .nil | refine .cons ⟨_, rfl⟩ ?_)⟩,
    A_SIGNS := A_SIGNS, m_SIGNS := PySem.W.mg_of X G a_SIGNS, s_SIGNS := fun H => .inr ⟨_, _, _, l_SIGNS, rfl, rfl, by show 2 ≤ sizeLine; decide, by repeat (first | exact .nil | refine .cons ⟨_, rfl⟩ ?_)⟩,
    A_DEEDS := A_DEEDS, m_DEEDS := PySem.W.mg_of X G a_DEEDS, s_DEEDS := fun H => .inr ⟨_, _, _, l_DEEDS, rfl, rfl, by show 2 ≤ sizeLine; decide, by repeat (first | exact .nil | refine .cons ⟨_, rfl⟩ ?_)⟩,
    a_is_whole := f18, d_is_whole := _, F_is_whole := fun_mk (st := s_is_whole) l18 c18 k18, b_is_whole := (fun_mk (st := s_is_whole) l18 c18 k18).binds (ps := ["value"]) (fun _ _ _ _ _ _ us hl => match us, hl with | [_], _ => rfl), k_is_whole := k18,
    m_is_whole := PySem.W.mg_of X G a18,
    a_is_sequence := f19, d_is_sequence := _, F_is_sequence := fun_mk (st := s_is_sequence) l19 c19 k19, b_is_sequence := (fun_mk (st := s_is_sequence) l19 c19 k19).binds (ps := ["value"]) (fun _ _ _ _ _ _ us hl => match us, hl with | [_], _ => rfl), k_is_sequence := k19,
    m_is_sequence := PySem.W.mg_of X G a19,
    a_whole_in := f20, d_whole_in := _, F_whole_in := fun_mk (st := s_whole_in) l20 c20 k20, b_whole_in := (fun_mk (st := s_whole_in) l20 c20 k20).binds (ps := ["word"]) (fun _ _ _ _ _ _ us hl => match us, hl with | [_], _ => rfl), k_whole_in := k20,
    m_whole_in := PySem.W.mg_of X G a20,
    a__text := f21, d__text := _, F__text := fun_mk (st := s__text) l21 c21 k21, b__text := (fun_mk (st := s__text) l21 c21 k21).binds (ps := ["times", "plus", "by"]) (fun _ _ _ _ _ _ us hl => match us, hl with | [_, _, _], _ => rfl), k__text := k21,
    m__text := PySem.W.mg_of X G a21,
    a__upper := f22, d__upper := _, F__upper := fun_mk (st := s__upper) l22 c22 k22, b__upper := (fun_mk (st := s__upper) l22 c22 k22).binds (ps := ["times", "plus"]) (fun _ _ _ _ _ _ us hl => match us, hl with | [_, _], _ => rfl), k__upper := k22,
    m__upper := PySem.W.mg_of X G a22,
    a__parts := f23, d__parts := _, F__parts := fun_mk (st := s__parts) l23 c23 k23, b__parts := (fun_mk (st := s__parts) l23 c23 k23).binds (ps := ["text"]) (fun _ _ _ _ _ _ us hl => match us, hl with | [_], _ => rfl), k__parts := k23,
    m__parts := PySem.W.mg_of X G a23,
    a__upper_parts := f24, d__upper_parts := _, F__upper_parts := fun_mk (st := s__upper_parts) l24 c24 k24, b__upper_parts := (fun_mk (st := s__upper_parts) l24 c24 k24).binds (ps := ["upper"]) (fun _ _ _ _ _ _ us hl => match us, hl with | [_], _ => rfl), k__upper_parts := k24,
    m__upper_parts := PySem.W.mg_of X G a24,
    a__factor := f25, d__factor := _, F__factor := fun_mk (st := s__factor) l25 c25 k25, b__factor := (fun_mk (st := s__factor) l25 c25 k25).binds (ps := ["word"]) (fun _ _ _ _ _ _ us hl => match us, hl with | [_], _ => rfl), k__factor := k25,
    m__factor := PySem.W.mg_of X G a25,
    a__blocks_in := f26, d__blocks_in := _, F__blocks_in := fun_mk (st := s__blocks_in) l26 c26 k26, b__blocks_in := (fun_mk (st := s__blocks_in) l26 c26 k26).binds (ps := ["lines"]) (fun _ _ _ _ _ _ us hl => match us, hl with | [_], _ => rfl), k__blocks_in := k26,
    m__blocks_in := PySem.W.mg_of X G a26,
    a__rounds_in := f27, d__rounds_in := _, F__rounds_in := fun_mk (st := s__rounds_in) l27 c27 k27, b__rounds_in := (fun_mk (st := s__rounds_in) l27 c27 k27).binds (ps := ["line"]) (fun _ _ _ _ _ _ us hl => match us, hl with | [_], _ => rfl), k__rounds_in := k27,
    m__rounds_in := PySem.W.mg_of X G a27,
    a__lane_in := f28, d__lane_in := _, F__lane_in := fun_mk (st := s__lane_in) l28 c28 k28, b__lane_in := (fun_mk (st := s__lane_in) l28 c28 k28).binds (ps := ["line"]) (fun _ _ _ _ _ _ us hl => match us, hl with | [_], _ => rfl), k__lane_in := k28,
    m__lane_in := PySem.W.mg_of X G a28,
    a__law_box := f29, d__law_box := _, F__law_box := fun_mk (st := s__law_box) l29 c29 k29, b__law_box := (fun_mk (st := s__law_box) l29 c29 k29).binds (ps := ["_law_script", "_law_k"]) (fun _ _ _ _ _ _ us hl => match us, hl with | [_, _], _ => rfl), k__law_box := k29,
    m__law_box := PySem.W.mg_of X G a29,
    a__law_take := f30, d__law_take := _, F__law_take := fun_mk (st := s__law_take) l30 c30 k30, b__law_take := (fun_mk (st := s__law_take) l30 c30 k30).binds (ps := ["_law_box_here", "_law_many"]) (fun _ _ _ _ _ _ us hl => match us, hl with | [_, _], _ => rfl), k__law_take := k30,
    m__law_take := PySem.W.mg_of X G a30,
    a__law_pick := f31, d__law_pick := _, F__law_pick := fun_mk (st := s__law_pick) l31 c31 k31, b__law_pick := (fun_mk (st := s__law_pick) l31 c31 k31).binds (ps := ["_law_box_here", "_law_some"]) (fun _ _ _ _ _ _ us hl => match us, hl with | [_, _], _ => rfl), k__law_pick := k31,
    m__law_pick := PySem.W.mg_of X G a31,
    a__law_form := f32, d__law_form := _, F__law_form := fun_mk (st := s__law_form) l32 c32 k32, b__law_form := (fun_mk (st := s__law_form) l32 c32 k32).binds (ps := ["_law_box_here", "_law_far"]) (fun _ _ _ _ _ _ us hl => match us, hl with | [_, _], _ => rfl), k__law_form := k32,
    m__law_form := PySem.W.mg_of X G a32,
    a__law_form_text := f33, d__law_form_text := _, F__law_form_text := fun_mk (st := s__law_form_text) l33 c33 k33, b__law_form_text := (fun_mk (st := s__law_form_text) l33 c33 k33).binds (ps := ["_law_form_here"]) (fun _ _ _ _ _ _ us hl => match us, hl with | [_], _ => rfl), k__law_form_text := k33,
    m__law_form_text := PySem.W.mg_of X G a33,
    a__law_lane := f34, d__law_lane := _, F__law_lane := fun_mk (st := s__law_lane) l34 c34 k34, b__law_lane := (fun_mk (st := s__law_lane) l34 c34 k34).binds (ps := ["_law_box_here", "_law_far"]) (fun _ _ _ _ _ _ us hl => match us, hl with | [_, _], _ => rfl), k__law_lane := k34,
    m__law_lane := PySem.W.mg_of X G a34,
    a__law_block := f35, d__law_block := _, F__law_block := fun_mk (st := s__law_block) l35 c35 k35, b__law_block := (fun_mk (st := s__law_block) l35 c35 k35).binds (ps := ["_law_box_here", "_law_lanes", "_law_far"]) (fun _ _ _ _ _ _ us hl => match us, hl with | [_, _, _], _ => rfl), k__law_block := k35,
    m__law_block := PySem.W.mg_of X G a35,
    a__law_known_plan := f36, d__law_known_plan := _, F__law_known_plan := fun_mk (st := s__law_known_plan) l36 c36 k36, b__law_known_plan := (fun_mk (st := s__law_known_plan) l36 c36 k36).binds (ps := ["_law_box_here"]) (fun _ _ _ _ _ _ us hl => match us, hl with | [_], _ => rfl), k__law_known_plan := k36,
    m__law_known_plan := PySem.W.mg_of X G a36,
    a__law_plan := f37, d__law_plan := _, F__law_plan := fun_mk (st := s__law_plan) l37 c37 k37, b__law_plan := (fun_mk (st := s__law_plan) l37 c37 k37).binds (ps := ["_law_box_here", "_law_blocks", "_law_lanes", "_law_far"]) (fun _ _ _ _ _ _ us hl => match us, hl with | [_, _, _, _], _ => rfl), k__law_plan := k37,
    m__law_plan := PySem.W.mg_of X G a37,
    a__law_lane_text := f38, d__law_lane_text := _, F__law_lane_text := fun_mk (st := s__law_lane_text) l38 c38 k38, b__law_lane_text := (fun_mk (st := s__law_lane_text) l38 c38 k38).binds (ps := ["_law_lane_here"]) (fun _ _ _ _ _ _ us hl => match us, hl with | [_], _ => rfl), k__law_lane_text := k38,
    m__law_lane_text := PySem.W.mg_of X G a38,
    a__law_plan_text := f39, d__law_plan_text := _, F__law_plan_text := fun_mk (st := s__law_plan_text) l39 c39 k39, b__law_plan_text := (fun_mk (st := s__law_plan_text) l39 c39 k39).binds (ps := ["_law_plan_here"]) (fun _ _ _ _ _ _ us hl => match us, hl with | [_], _ => rfl), k__law_plan_text := k39,
    m__law_plan_text := PySem.W.mg_of X G a39,
    a__law_lane_of := f40, d__law_lane_of := _, F__law_lane_of := fun_mk (st := s__law_lane_of) l40 c40 k40, b__law_lane_of := (fun_mk (st := s__law_lane_of) l40 c40 k40).binds (ps := ["_law_lane_here"]) (fun _ _ _ _ _ _ us hl => match us, hl with | [_], _ => rfl), k__law_lane_of := k40,
    m__law_lane_of := PySem.W.mg_of X G a40,
    a__law_plan_of := f41, d__law_plan_of := _, F__law_plan_of := fun_mk (st := s__law_plan_of) l41 c41 k41, b__law_plan_of := (fun_mk (st := s__law_plan_of) l41 c41 k41).binds (ps := ["_law_plan_here"]) (fun _ _ _ _ _ _ us hl => match us, hl with | [_], _ => rfl), k__law_plan_of := k41,
    m__law_plan_of := PySem.W.mg_of X G a41,
    a__law_has_form := f42, d__law_has_form := _, F__law_has_form := fun_mk (st := s__law_has_form) l42 c42 k42, b__law_has_form := (fun_mk (st := s__law_has_form) l42 c42 k42).binds (ps := ["_law_word"]) (fun _ _ _ _ _ _ us hl => match us, hl with | [_], _ => rfl), k__law_has_form := k42,
    m__law_has_form := PySem.W.mg_of X G a42,
    a__law_sort := f43, d__law_sort := _, F__law_sort := fun_mk (st := s__law_sort) l43 c43 k43, b__law_sort := (fun_mk (st := s__law_sort) l43 c43 k43).binds (ps := ["_law_line"]) (fun _ _ _ _ _ _ us hl => match us, hl with | [_], _ => rfl), k__law_sort := k43,
    m__law_sort := PySem.W.mg_of X G a43,
    a__law_due := f44, d__law_due := _, F__law_due := fun_mk (st := s__law_due) l44 c44 k44, b__law_due := (fun_mk (st := s__law_due) l44 c44 k44).binds (ps := ["_law_text"]) (fun _ _ _ _ _ _ us hl => match us, hl with | [_], _ => rfl), k__law_due := k44,
    m__law_due := PySem.W.mg_of X G a44,
    a__law_bent := f45, d__law_bent := _, F__law_bent := fun_mk (st := s__law_bent) l45 c45 k45, b__law_bent := (fun_mk (st := s__law_bent) l45 c45 k45).binds (ps := ["_law_box_here", "_law_text"]) (fun _ _ _ _ _ _ us hl => match us, hl with | [_, _], _ => rfl), k__law_bent := k45,
    m__law_bent := PySem.W.mg_of X G a45,
    a__law_read := f46, d__law_read := _, F__law_read := fun_mk (st := s__law_read) l46 c46 k46, b__law_read := (fun_mk (st := s__law_read) l46 c46 k46).binds (ps := ["_law_text"]) (fun _ _ _ _ _ _ us hl => match us, hl with | [_], _ => rfl), k__law_read := k46,
    m__law_read := PySem.W.mg_of X G a46,
    a_law := fa, d_law := _, F_law := fun_mk (st := s_law) l47 c47 k47, b_law := (fun_mk (st := s_law) l47 c47 k47).binds (ps := ["_law_script"]) (fun _ _ _ _ _ _ us hl => match us, hl with | [_], _ => rfl), k_law := k47,
    m_law := PySem.W.mg_of X G a47,
    z_abs := PySem.W.mg_none_of X G z_abs, z_all := PySem.W.mg_none_of X G z_all, z_bool := PySem.W.mg_none_of X G z_bool, z_enumerate := PySem.W.mg_none_of X G z_enumerate, z_int := PySem.W.mg_none_of X G z_int, z_isinstance := PySem.W.mg_none_of X G z_isinstance, z_len := PySem.W.mg_none_of X G z_len, z_list := PySem.W.mg_none_of X G z_list, z_max := PySem.W.mg_none_of X G z_max, z_min := PySem.W.mg_none_of X G z_min, z_range := PySem.W.mg_none_of X G z_range, z_repr := PySem.W.mg_none_of X G z_repr, z_str := PySem.W.mg_none_of X G z_str, z_tuple := PySem.W.mg_none_of X G z_tuple }
  exact ⟨PySem.W.fnOf "law" "law" (defArgs s_law) (defBody s_law) (defScope s_law) .none kV47 dc47 pm47 an47 cd47 ct47, fun s v => .of_eq rfl, fun base _ _ => ok_law T⟩
end K09
open PySem PySem.W PyProof.Rows
set_option maxHeartbeats 0 in
theorem PySem.Challenge.cw_ringsums_k09_texts_of_plans_holds : PySem.Challenge.rw_ringsums_k09_texts_of_plans.Holds := by
  w_on; o_law; k_head; (case hw => w_witness2)
  k_fill
  refine Rs.walk_at_of (l := PySem.Challenge.rw_ringsums_k09_texts_of_plans) (n := 63) (k := 16) (x := "_law_script") (sp := fun w => K09.spLaw _) rfl (by decide) rfl ⟨rfl, by decide, by decide⟩ (fun w h Y => PySem.W.kIn_of Y) ?F (fun _ _ a ns hl hS => ⟨a, ns, rfl, hS, hl, fun _ => rfl⟩)
  case F =>
    intro w mg fa h KX G hmg
    refine' K09.all_mk KX G hmg ?aC_RingError ?aC_InvalidForm ?xL_InvalidForm ?sa_InvalidForm ?ga_InvalidForm ?gg_InvalidForm ?nw_InvalidForm ?ca_InvalidForm ?kC_InvalidForm ?eC_InvalidForm ?tC_InvalidForm ?hC_InvalidForm ?sC_InvalidForm ?mo_InvalidForm ?cl_InvalidForm ?l0 ?c0 ?k0 ?iC_InvalidForm ?iT_InvalidForm ?aC_InvalidLane ?xL_InvalidLane ?sa_InvalidLane ?ga_InvalidLane ?gg_InvalidLane ?nw_InvalidLane ?ca_InvalidLane ?kC_InvalidLane ?eC_InvalidLane ?tC_InvalidLane ?hC_InvalidLane ?sC_InvalidLane ?mo_InvalidLane ?cl_InvalidLane ?l1 ?c1 ?k1 ?iC_InvalidLane ?iT_InvalidLane ?aC_InvalidBlock ?xL_InvalidBlock ?sa_InvalidBlock ?ga_InvalidBlock ?gg_InvalidBlock ?nw_InvalidBlock ?ca_InvalidBlock ?kC_InvalidBlock ?eC_InvalidBlock ?tC_InvalidBlock ?hC_InvalidBlock ?sC_InvalidBlock ?mo_InvalidBlock ?cl_InvalidBlock ?l2 ?c2 ?k2 ?iC_InvalidBlock ?iT_InvalidBlock ?aC_InvalidPlan ?aC_InvalidText ?xL_InvalidText ?sa_InvalidText ?ga_InvalidText ?gg_InvalidText ?nw_InvalidText ?ca_InvalidText ?kC_InvalidText ?eC_InvalidText ?tC_InvalidText ?hC_InvalidText ?sC_InvalidText ?mo_InvalidText ?cl_InvalidText ?l3 ?c3 ?k3 ?iC_InvalidText ?iT_InvalidText ?aC_Form ?pg_Form ?hd_Form ?po_Form ?sa_Form ?mk_Form ?kc_Form ?n_times_Form ?n_plus_Form ?n_by_Form ?fo_Form ?cl_Form ?tC_Form ?ca_Form ?mo_Form ?nE_Form ?mo_N_Form ?mo_S_Form ?mo_T_Form ?mo_L_Form ?mo_I_Form ?t4 ?l4 ?c4 ?k4 ?a4 ?i4 ?l5 ?c5 ?k5 ?a5 ?i5 ?l6 ?c6 ?k6 ?a6 ?i6 ?l7 ?c7 ?k7 ?cr_Form ?cg_Form ?pm7 ?pr7 ?pf7 ?aC_Lane ?pg_Lane ?hd_Lane ?po_Lane ?sa_Lane ?mk_Lane ?kc_Lane ?n_way_Lane ?n_sign_Lane ?n_shift_Lane ?n_deed_Lane ?cl_Lane ?tC_Lane ?ca_Lane ?mo_Lane ?nE_Lane ?mo_N_Lane ?mo_S_Lane ?mo_T_Lane ?mo_L_Lane ?mo_I_Lane ?l8 ?c8 ?k8 ?a8 ?i8 ?l9 ?c9 ?k9 ?a9 ?i9 ?l10 ?c10 ?k10 ?a10 ?i10 ?aC_Block ?pg_Block ?hd_Block ?po_Block ?sa_Block ?mk_Block ?kc_Block ?n_rounds_Block ?n_lanes_Block ?cl_Block ?tC_Block ?ca_Block ?mo_Block ?nE_Block ?mo_N_Block ?mo_S_Block ?mo_T_Block ?mo_L_Block ?mo_I_Block ?l11 ?c11 ?k11 ?a11 ?i11 ?l12 ?c12 ?k12 ?a12 ?i12 ?l13 ?c13 ?k13 ?a13 ?i13 ?aC_Plan ?pg_Plan ?hd_Plan ?po_Plan ?sa_Plan ?mk_Plan ?kc_Plan ?n_blocks_Plan ?n_found_Plan ?cl_Plan ?tC_Plan ?ca_Plan ?mo_Plan ?nE_Plan ?mo_N_Plan ?mo_S_Plan ?mo_T_Plan ?mo_L_Plan ?mo_I_Plan ?t14 ?l14 ?c14 ?k14 ?lD_Plan___init___0 ?a14 ?i14 ?l15 ?c15 ?k15 ?a15 ?i15 ?l16 ?c16 ?k16 ?a16 ?i16 ?l17 ?c17 ?k17 ?cr_Plan ?cg_Plan ?pm17 ?pr17 ?pf17 ?spec ?takes ?kit_InvalidText_RingError ?kit_InvalidText_InvalidForm ?kit_InvalidText_InvalidPlan ?kit_InvalidText_InvalidLane ?kit_InvalidLane_InvalidText ?kit_Lane_Form ?kit_Block_Lane ?a_WAYS ?l_WAYS ?a_SIGNS ?l_SIGNS ?a_DEEDS ?l_DEEDS ?l18 ?c18 ?k18 ?a18 ?l19 ?c19 ?k19 ?a19 ?l20 ?c20 ?k20 ?a20 ?l21 ?c21 ?k21 ?a21 ?l22 ?c22 ?k22 ?a22 ?l23 ?c23 ?k23 ?a23 ?l24 ?c24 ?k24 ?a24 ?l25 ?c25 ?k25 ?a25 ?l26 ?c26 ?k26 ?a26 ?l27 ?c27 ?k27 ?a27 ?l28 ?c28 ?k28 ?a28 ?l29 ?c29 ?k29 ?a29 ?l30 ?c30 ?k30 ?a30 ?l31 ?c31 ?k31 ?a31 ?l32 ?c32 ?k32 ?a32 ?l33 ?c33 ?k33 ?a33 ?l34 ?c34 ?k34 ?a34 ?l35 ?c35 ?k35 ?a35 ?l36 ?c36 ?k36 ?a36 ?l37 ?c37 ?k37 ?a37 ?l38 ?c38 ?k38 ?a38 ?l39 ?c39 ?k39 ?a39 ?l40 ?c40 ?k40 ?a40 ?l41 ?c41 ?k41 ?a41 ?l42 ?c42 ?k42 ?a42 ?l43 ?c43 ?k43 ?a43 ?l44 ?c44 ?k44 ?a44 ?l45 ?c45 ?k45 ?a45 ?l46 ?c46 ?k46 ?a46 ?l47 ?c47 ?k47 ?a47 ?z_abs ?z_all ?z_bool ?z_enumerate ?z_int ?z_isinstance ?z_len ?z_list ?z_max ?z_min ?z_range ?z_repr ?z_str ?z_tuple
    (case aC_RingError => k_is)
    (case aC_InvalidForm => k_is)
    (case aC_InvalidLane => k_is)
    (case aC_InvalidBlock => k_is)
    (case aC_InvalidPlan => k_is)
    (case aC_InvalidText => k_is)
    (case aC_Form => k_is)
    (case aC_Lane => k_is)
    (case aC_Block => k_is)
    (case aC_Plan => k_is)
    (case a_WAYS => k_is)
    (case a_SIGNS => k_is)
    (case a_DEEDS => k_is)
    (case iC_InvalidForm => k_is)
    (case iC_InvalidLane => k_is)
    (case iC_InvalidBlock => k_is)
    (case iC_InvalidText => k_is)
    (case a4 => k_is)
    (case a5 => k_is)
    (case a6 => k_is)
    (case pm7 => k_is)
    (case a8 => k_is)
    (case a9 => k_is)
    (case a10 => k_is)
    (case a11 => k_is)
    (case a12 => k_is)
    (case a13 => k_is)
    (case a14 => k_is)
    (case a15 => k_is)
    (case a16 => k_is)
    (case pm17 => k_is)
    (case a18 => k_is)
    (case a19 => k_is)
    (case a20 => k_is)
    (case a21 => k_is)
    (case a22 => k_is)
    (case a23 => k_is)
    (case a24 => k_is)
    (case a25 => k_is)
    (case a26 => k_is)
    (case a27 => k_is)
    (case a28 => k_is)
    (case a29 => k_is)
    (case a30 => k_is)
    (case a31 => k_is)
    (case a32 => k_is)
    (case a33 => k_is)
    (case a34 => k_is)
    (case a35 => k_is)
    (case a36 => k_is)
    (case a37 => k_is)
    (case a38 => k_is)
    (case a39 => k_is)
    (case a40 => k_is)
    (case a41 => k_is)
    (case a42 => k_is)
    (case a43 => k_is)
    (case a44 => k_is)
    (case a45 => k_is)
    (case a46 => k_is)
    (case a47 => k_is)
    (case pr7 => k_is)
    (case pr17 => k_is)
    (case xL_InvalidForm => k_is)
    (case l0 => k_is)
    (case xL_InvalidLane => k_is)
    (case l1 => k_is)
    (case xL_InvalidBlock => k_is)
    (case l2 => k_is)
    (case xL_InvalidText => k_is)
    (case l3 => k_is)
    (case l4 => k_is)
    (case l5 => k_is)
    (case l6 => k_is)
    (case l7 => k_is)
    (case l8 => k_is)
    (case l9 => k_is)
    (case l10 => k_is)
    (case l11 => k_is)
    (case l12 => k_is)
    (case l13 => k_is)
    (case l14 => k_is)
    (case l15 => k_is)
    (case l16 => k_is)
    (case l17 => k_is)
    (case l_WAYS => k_is)
    (case l_SIGNS => k_is)
    (case l_DEEDS => k_is)
    (case l18 => k_is)
    (case l19 => k_is)
    (case l20 => k_is)
    (case l21 => k_is)
    (case l22 => k_is)
    (case l23 => k_is)
    (case l24 => k_is)
    (case l25 => k_is)
    (case l26 => k_is)
    (case l27 => k_is)
    (case l28 => k_is)
    (case l29 => k_is)
    (case l30 => k_is)
    (case l31 => k_is)
    (case l32 => k_is)
    (case l33 => k_is)
    (case l34 => k_is)
    (case l35 => k_is)
    (case l36 => k_is)
    (case l37 => k_is)
    (case l38 => k_is)
    (case l39 => k_is)
    (case l40 => k_is)
    (case l41 => k_is)
    (case l42 => k_is)
    (case l43 => k_is)
    (case l44 => k_is)
    (case l45 => k_is)
    (case l46 => k_is)
    (case l47 => k_is)
    (case sa_InvalidForm => k_is)
    (case ga_InvalidForm => k_is)
    (case gg_InvalidForm => k_is)
    (case nw_InvalidForm => k_is)
    (case ca_InvalidForm => k_is)
    (case kC_InvalidForm => k_is)
    (case eC_InvalidForm => k_is)
    (case tC_InvalidForm => first | rfl | k_is)
    (case hC_InvalidForm => k_is)
    (case sC_InvalidForm => first | rfl | k_is)
    (case mo_InvalidForm => first | rfl | k_is)
    (case cl_InvalidForm => first | rfl | k_is)
    (case c0 => k_is)
    (case k0 => k_is)
    (case iT_InvalidForm => k_is)
    (case sa_InvalidLane => k_is)
    (case ga_InvalidLane => k_is)
    (case gg_InvalidLane => k_is)
    (case nw_InvalidLane => k_is)
    (case ca_InvalidLane => k_is)
    (case kC_InvalidLane => k_is)
    (case eC_InvalidLane => k_is)
    (case tC_InvalidLane => first | rfl | k_is)
    (case hC_InvalidLane => k_is)
    (case sC_InvalidLane => first | rfl | k_is)
    (case mo_InvalidLane => first | rfl | k_is)
    (case cl_InvalidLane => first | rfl | k_is)
    (case c1 => k_is)
    (case k1 => k_is)
    (case iT_InvalidLane => k_is)
    (case sa_InvalidBlock => k_is)
    (case ga_InvalidBlock => k_is)
    (case gg_InvalidBlock => k_is)
    (case nw_InvalidBlock => k_is)
    (case ca_InvalidBlock => k_is)
    (case kC_InvalidBlock => k_is)
    (case eC_InvalidBlock => k_is)
    (case tC_InvalidBlock => first | rfl | k_is)
    (case hC_InvalidBlock => k_is)
    (case sC_InvalidBlock => first | rfl | k_is)
    (case mo_InvalidBlock => first | rfl | k_is)
    (case cl_InvalidBlock => first | rfl | k_is)
    (case c2 => k_is)
    (case k2 => k_is)
    (case iT_InvalidBlock => k_is)
    (case sa_InvalidText => k_is)
    (case ga_InvalidText => k_is)
    (case gg_InvalidText => k_is)
    (case nw_InvalidText => k_is)
    (case ca_InvalidText => k_is)
    (case kC_InvalidText => k_is)
    (case eC_InvalidText => k_is)
    (case tC_InvalidText => first | rfl | k_is)
    (case hC_InvalidText => k_is)
    (case sC_InvalidText => first | rfl | k_is)
    (case mo_InvalidText => first | rfl | k_is)
    (case cl_InvalidText => first | rfl | k_is)
    (case c3 => k_is)
    (case k3 => k_is)
    (case iT_InvalidText => k_is)
    (case pg_Form => k_is)
    (case hd_Form => k_is)
    (case po_Form => k_is)
    (case sa_Form => k_is)
    (case mk_Form => k_is)
    (case kc_Form => k_is)
    (case n_times_Form => k_is)
    (case n_plus_Form => k_is)
    (case n_by_Form => k_is)
    (case fo_Form => k_is)
    (case cl_Form => first | rfl | k_is)
    (case tC_Form => first | rfl | k_is)
    (case ca_Form => k_is)
    (case mo_Form => first | rfl | k_is)
    (case nE_Form => k_is)
    (case mo_N_Form => first | rfl | k_is)
    (case mo_S_Form => first | rfl | k_is)
    (case mo_T_Form => first | rfl | k_is)
    (case mo_L_Form => first | rfl | k_is)
    (case mo_I_Form => first | rfl | k_is)
    (case t4 => first | rfl | k_is)
    (case c4 => k_is)
    (case k4 => k_is)
    (case i4 => k_is)
    (case c5 => k_is)
    (case k5 => k_is)
    (case i5 => k_is)
    (case c6 => k_is)
    (case k6 => k_is)
    (case i6 => k_is)
    (case c7 => k_is)
    (case k7 => k_is)
    (case cr_Form => k_is)
    (case cg_Form => k_is)
    (case pf7 => k_is)
    (case pg_Lane => k_is)
    (case hd_Lane => k_is)
    (case po_Lane => k_is)
    (case sa_Lane => k_is)
    (case mk_Lane => k_is)
    (case kc_Lane => k_is)
    (case n_way_Lane => k_is)
    (case n_sign_Lane => k_is)
    (case n_shift_Lane => k_is)
    (case n_deed_Lane => k_is)
    (case cl_Lane => first | rfl | k_is)
    (case tC_Lane => first | rfl | k_is)
    (case ca_Lane => k_is)
    (case mo_Lane => first | rfl | k_is)
    (case nE_Lane => k_is)
    (case mo_N_Lane => first | rfl | k_is)
    (case mo_S_Lane => first | rfl | k_is)
    (case mo_T_Lane => first | rfl | k_is)
    (case mo_L_Lane => first | rfl | k_is)
    (case mo_I_Lane => first | rfl | k_is)
    (case c8 => k_is)
    (case k8 => k_is)
    (case i8 => k_is)
    (case c9 => k_is)
    (case k9 => k_is)
    (case i9 => k_is)
    (case c10 => k_is)
    (case k10 => k_is)
    (case i10 => k_is)
    (case pg_Block => k_is)
    (case hd_Block => k_is)
    (case po_Block => k_is)
    (case sa_Block => k_is)
    (case mk_Block => k_is)
    (case kc_Block => k_is)
    (case n_rounds_Block => k_is)
    (case n_lanes_Block => k_is)
    (case cl_Block => first | rfl | k_is)
    (case tC_Block => first | rfl | k_is)
    (case ca_Block => k_is)
    (case mo_Block => first | rfl | k_is)
    (case nE_Block => k_is)
    (case mo_N_Block => first | rfl | k_is)
    (case mo_S_Block => first | rfl | k_is)
    (case mo_T_Block => first | rfl | k_is)
    (case mo_L_Block => first | rfl | k_is)
    (case mo_I_Block => first | rfl | k_is)
    (case c11 => k_is)
    (case k11 => k_is)
    (case i11 => k_is)
    (case c12 => k_is)
    (case k12 => k_is)
    (case i12 => k_is)
    (case c13 => k_is)
    (case k13 => k_is)
    (case i13 => k_is)
    (case pg_Plan => k_is)
    (case hd_Plan => k_is)
    (case po_Plan => k_is)
    (case sa_Plan => k_is)
    (case mk_Plan => k_is)
    (case kc_Plan => k_is)
    (case n_blocks_Plan => k_is)
    (case n_found_Plan => k_is)
    (case cl_Plan => first | rfl | k_is)
    (case tC_Plan => first | rfl | k_is)
    (case ca_Plan => k_is)
    (case mo_Plan => first | rfl | k_is)
    (case nE_Plan => k_is)
    (case mo_N_Plan => first | rfl | k_is)
    (case mo_S_Plan => first | rfl | k_is)
    (case mo_T_Plan => first | rfl | k_is)
    (case mo_L_Plan => first | rfl | k_is)
    (case mo_I_Plan => first | rfl | k_is)
    (case t14 => first | rfl | k_is)
    (case c14 => k_is)
    (case k14 => k_is)
    (case i14 => k_is)
    (case c15 => k_is)
    (case k15 => k_is)
    (case i15 => k_is)
    (case c16 => k_is)
    (case k16 => k_is)
    (case i16 => k_is)
    (case c17 => k_is)
    (case k17 => k_is)
    (case cr_Plan => k_is)
    (case cg_Plan => k_is)
    (case pf17 => k_is)
    (case spec => first | rfl | k_is)
    (case takes => first | rfl | k_is)
    (case kit_InvalidText_RingError => first | rfl | k_is)
    (case kit_InvalidText_InvalidForm => first | rfl | k_is)
    (case kit_InvalidText_InvalidPlan => first | rfl | k_is)
    (case kit_InvalidText_InvalidLane => first | rfl | k_is)
    (case kit_InvalidLane_InvalidText => first | rfl | k_is)
    (case kit_Lane_Form => first | rfl | k_is)
    (case kit_Block_Lane => first | rfl | k_is)
    (case c18 => k_is)
    (case k18 => k_is)
    (case c19 => k_is)
    (case k19 => k_is)
    (case c20 => k_is)
    (case k20 => k_is)
    (case c21 => k_is)
    (case k21 => k_is)
    (case c22 => k_is)
    (case k22 => k_is)
    (case c23 => k_is)
    (case k23 => k_is)
    (case c24 => k_is)
    (case k24 => k_is)
    (case c25 => k_is)
    (case k25 => k_is)
    (case c26 => k_is)
    (case k26 => k_is)
    (case c27 => k_is)
    (case k27 => k_is)
    (case c28 => k_is)
    (case k28 => k_is)
    (case c29 => k_is)
    (case k29 => k_is)
    (case c30 => k_is)
    (case k30 => k_is)
    (case c31 => k_is)
    (case k31 => k_is)
    (case c32 => k_is)
    (case k32 => k_is)
    (case c33 => k_is)
    (case k33 => k_is)
    (case c34 => k_is)
    (case k34 => k_is)
    (case c35 => k_is)
    (case k35 => k_is)
    (case c36 => k_is)
    (case k36 => k_is)
    (case c37 => k_is)
    (case k37 => k_is)
    (case c38 => k_is)
    (case k38 => k_is)
    (case c39 => k_is)
    (case k39 => k_is)
    (case c40 => k_is)
    (case k40 => k_is)
    (case c41 => k_is)
    (case k41 => k_is)
    (case c42 => k_is)
    (case k42 => k_is)
    (case c43 => k_is)
    (case k43 => k_is)
    (case c44 => k_is)
    (case k44 => k_is)
    (case c45 => k_is)
    (case k45 => k_is)
    (case c46 => k_is)
    (case k46 => k_is)
    (case c47 => k_is)
    (case k47 => k_is)
    (case z_abs => k_is)
    (case z_all => k_is)
    (case z_bool => k_is)
    (case z_enumerate => k_is)
    (case z_int => k_is)
    (case z_isinstance => k_is)
    (case z_len => k_is)
    (case z_list => k_is)
    (case z_max => k_is)
    (case z_min => k_is)
    (case z_range => k_is)
    (case z_repr => k_is)
    (case z_str => k_is)
    (case z_tuple => k_is)
    (case lD_Plan___init___0 => k_is)
