import PyProof.Rows.All
import Wide.All
import OpenK.AllK
import Wide.FinOn
import HandS.ForMost
import HandS.Wide
import HandS.Conv
import HandS.IsInst
import HandS.Walk
import HandS.TupAny
import HandS.TupMul
import HandS.TryOnly
import HandS.Style
import HandS.Flow
import HandS.Deep
import HandS.ForExc
import HandS.ExcInit
import HandS.ExcIs
import HandS.ExcField
import HandS.Defaults
import HandS.RaiseMore
import KE.KExcIs
import HandS.OwnEq
import HandS.SlotsOwn
import PyProof.InstNe
import HandS.DictComp
import PyProof.Rows.FloatCmp
import KE.KOpsOwn
import OpenK.KMeth
import HandS.Property
import HandS.Gcd
import HandS.ListItems
import HandS.Zip
import HandS.GenList
import KE.GoesZip
import KE.KItemsList
import PyProof.ZipIter
import HandS.FStr
import HandS.Text
import KE.KCallOwn
import KE.KIntText
import PyProof.Rows.ReprOcc
import KE.KxField
import KE.KFmtOwn
import PyProof.ReprRoads
import PyProof.CallFns
import HandS.Nested
import HandS.EndOwn
import HandS.ExcOwn
import OpenK.KOps
import HandS.ClsMeth
import HandS.IterVal
import OpenK.KCls
import HandS.ExcValue
import HandS.TryMany
import KE.GoesMore
import KE.GoesEnum
import HandS.Iter
import HandS.Dict
import KE.KDictZip
import HandS.Star
import HandS.StrMore
import PySem.Challenge.RW_ringsums_k17_rows_refused
set_option Elab.async false
set_option linter.all false
set_option maxRecDepth 100000
set_option maxHeartbeats 4000000
namespace Rs
open PySem PySem.Spec PyProof.Rows L2

/-! ### what never changes: tuples, instances, their dicts -/
def frozen : HO → Prop
  | .tup _ => True
  | .ins _ _ _ => True
  | .own _ => True
  | .frz _ _ => True
  | _ => False
def Fz (H H' : Hp) : Prop := ∀ a o, frozen o → H a = some o → H' a = some o
theorem Fz.refl (H : Hp) : Fz H H := fun _ _ _ h => h
theorem Fz.trans {H H1 H2 : Hp} (a : Fz H H1) (b : Fz H1 H2) : Fz H H2 := fun x o f h => b x o f (a x o f h)
theorem Fz.of_same {H H' : Hp} (s : Same H H') : Fz H H' := fun a o _ h => s a o h
theorem same_new {H : Hp} {p : Addr} {o : HO} (h : H p = none) : Same H (upd H p o) := fun b x e => by
  rw [upd_ne (ne_of_none e h)]
  exact e
theorem Fz.new {H : Hp} {p : Addr} {o : HO} (h : H p = none) : Fz H (upd H p o) := Fz.of_same (same_new h)
theorem Fz.lst {H : Hp} {p : Addr} {xs : List V} {o : HO} (h : H p = some (.lst xs)) : Fz H (upd H p o) := fun a u f e => by
  have : a ≠ p := by
    rintro rfl
    rw [h] at e
    cases e
    exact f
  rw [upd_ne this]
  exact e

/-! ### data of tuples -/
mutual
inductive Dt (K : PySem.W.Frag) (H : Hp) : V → PyData → Prop
  | non : Dt K H .non .none
  | bl (b : Bool) : Dt K H (.bl b) (.bool b)
  | int (i : Int) : Dt K H (.int i) (.int i)
  | str (x : Str) : Dt K H (.str x) (.str x)
  | tup {a : Addr} {xs : List V} {ds : List PyData} : SqT K H a xs → DtAll K H xs ds → Dt K H (.ref a) (.tuple ds)
inductive DtAll (K : PySem.W.Frag) (H : Hp) : List V → List PyData → Prop
  | nil : DtAll K H [] []
  | cons {v : V} {vs : List V} {d : PyData} {ds : List PyData} : Dt K H v d → DtAll K H vs ds → DtAll K H (v :: vs) (d :: ds)
end
theorem Fz.sqT {K : PySem.W.Frag} {H H' : Hp} {a : Addr} {xs : List V} (e : Fz H H') (h : SqT K H a xs) : SqT K H' a xs := by
  rcases h with (h | ⟨o, h⟩) | h
  · exact .inl (.inl (e _ _ trivial h))
  · exact .inl (.inr ⟨o, e _ _ trivial h⟩)
  · exact .inr h
mutual
theorem Dt.mono {K : PySem.W.Frag} {H H' : Hp} (e : Fz H H') : ∀ {v : V} {d : PyData}, Dt K H v d → Dt K H' v d
  | _, _, .non => .non
  | _, _, .bl b => .bl b
  | _, _, .int i => .int i
  | _, _, .str x => .str x
  | _, _, .tup h hs => .tup (e.sqT h) (DtAll.mono e hs)
theorem DtAll.mono {K : PySem.W.Frag} {H H' : Hp} (e : Fz H H') : ∀ {v : List V} {d : List PyData}, DtAll K H v d → DtAll K H' v d
  | _, _, .nil => .nil
  | _, _, .cons h hs => .cons (h.mono e) (DtAll.mono e hs)
end
mutual
theorem Dt.dp {K : PySem.W.Frag} {H : Hp} : ∀ {v : V} {d : PyData}, Dt K H v d → Dp K H v d
  | _, _, .non => .non
  | _, _, .bl b => .bl b
  | _, _, .int i => .int i
  | _, _, .str x => .str x
  | _, _, .tup h hs => .tup h (DtAll.dp hs)
theorem DtAll.dp {K : PySem.W.Frag} {H : Hp} : ∀ {v : List V} {d : List PyData}, DtAll K H v d → DpAll K H v d
  | _, _, .nil => .nil
  | _, _, .cons h hs => .cons h.dp (DtAll.dp hs)
end
theorem DtAll.length {K : PySem.W.Frag} {H : Hp} : ∀ {v : List V} {d : List PyData}, DtAll K H v d → v.length = d.length
  | _, _, .nil => rfl
  | _, _, .cons _ hs => congrArg (· + 1) hs.length
theorem DtAll.append {K : PySem.W.Frag} {H : Hp} : ∀ {v w : List V} {d e : List PyData}, DtAll K H v d → DtAll K H w e → DtAll K H (v ++ w) (d ++ e)
  | _, _, _, _, .nil, k => k
  | _, _, _, _, .cons h hs, k => .cons h (hs.append k)
theorem DtAll.get {K : PySem.W.Frag} {H : Hp} : ∀ {v : List V} {d : List PyData} {i : Nat} {x : PyData}, DtAll K H v d → d[i]? = some x → ∃ y, v[i]? = some y ∧ Dt K H y x
  | _, _, i, x, .nil, e => by simp at e
  | _, _, 0, x, .cons h _, e => ⟨_, rfl, by
      have : _ = x := Option.some.inj e
      exact this ▸ h⟩
  | _, _, i + 1, x, .cons _ hs, e => by
    have e' := e
    simp only [List.getElem?_cons_succ] at e' ⊢
    exact hs.get e'
theorem DtAll.getV {K : PySem.W.Frag} {H : Hp} : ∀ {v : List V} {d : List PyData} {i : Nat} {y : V}, DtAll K H v d → v[i]? = some y → ∃ x, d[i]? = some x ∧ Dt K H y x
  | _, _, i, x, .nil, e => by simp at e
  | _, _, 0, x, .cons h _, e => ⟨_, rfl, by
      have : _ = x := Option.some.inj e
      exact this ▸ h⟩
  | _, _, i + 1, x, .cons _ hs, e => by
    have e' := e
    simp only [List.getElem?_cons_succ] at e' ⊢
    exact hs.getV e'

/-! ### the box of draws -/
structure BoxI (x y z : Int) : Prop where
  x0 : 0 ≤ x
  y1 : 1 ≤ y
  y2 : y ≤ 2147483629
def boxL (x y z : Int) : List V := [.int x, .int y, .int z]
def Box (H : Hp) (b : Addr) : Prop := ∃ x y z, H b = some (.lst (boxL x y z)) ∧ BoxI x y z
/-- all but the list at b is as it was -/
def But (b : Addr) (H H' : Hp) : Prop := ∀ a o, a ≠ b → H a = some o → H' a = some o
theorem But.refl (b : Addr) (H : Hp) : But b H H := fun _ _ _ h => h
theorem But.trans {b : Addr} {H H1 H2 : Hp} (x : But b H H1) (y : But b H1 H2) : But b H H2 := fun a o n h => y a o n (x a o n h)
theorem But.of_same {b : Addr} {H H' : Hp} (s : Same H H') : But b H H' := fun a o _ h => s a o h
theorem But.upd {b : Addr} {H H' : Hp} {o : HO} (s : But b H H') : But b H (upd H' b o) := fun a u n h => by
  rw [upd_ne n]
  exact s a u n h
theorem Box.same {b : Addr} {H H' : Hp} (x : Box H b) (s : Same H H') : Box H' b := by
  obtain ⟨x, y, z, h, i⟩ := x
  exact ⟨x, y, z, s _ _ h, i⟩
theorem Box.fz {b : Addr} {H H' : Hp} (x : Box H b) (s : But b H H') : Fz H H' := fun a o f h => by
  refine s a o ?_ h
  rintro rfl
  obtain ⟨x, y, z, h', i⟩ := x
  rw [h'] at h
  cases h
  exact f
theorem Box.ne_none {b p : Addr} {H : Hp} (x : Box H b) (h : H p = none) : p ≠ b := by
  rintro rfl
  obtain ⟨x, y, z, h', i⟩ := x
  rw [h] at h'
  cases h'
theorem ifB {b : Bool} {A B : Prop} (h1 : b = true → A) (h2 : b = false → B) : if b = true then A else B := by
  cases b with
  | true => rw [if_pos rfl]; exact h1 rfl
  | false => rw [if_neg Bool.false_ne_true]; exact h2 rfl
theorem ifD {c A B : Prop} [Decidable c] (h1 : c → A) (h2 : ¬ c → B) : if decide c = true then A else B := ifB (fun e => h1 (of_decide_eq_true e)) (fun e => h2 (of_decide_eq_false e))
theorem ifN {c A B : Prop} [Decidable c] (h1 : ¬ c → A) (h2 : c → B) : if (!decide c) = true then A else B := by
  by_cases h : c
  · rw [decide_eq_true h]; exact h2 h
  · rw [decide_eq_false h]; exact h1 h
theorem ifT {b : Bool} {A B : Prop} (e : b = true) (h1 : A) : if b = true then A else B := by rw [if_pos e]; exact h1
theorem ifF {b : Bool} {A B : Prop} (e : b = false) (h1 : B) : if b = true then A else B := by rw [e, if_neg Bool.false_ne_true]; exact h1
theorem szL {n : Nat} (h : n ≤ 1000) : n ≤ sizeLine := Nat.le_trans h (by decide)
theorem szl {n : Nat} (h : n ≤ 1000) : n < sizeLine := Nat.lt_of_le_of_lt h (by decide)
theorem atI_ok {xs : List V} {i : Int} {j : Nat} {v : V} (h0 : 0 ≤ i) (e : i.toNat = j) (h : xs[j]? = some v) : atI xs i = some v := at_of (by omega) h
theorem ints_at {ns : List Int} {k : Int} (h0 : 0 ≤ k) (h1 : k < ns.length) : ∃ z, atI (ns.map V.int) k = some (.int z) := by
  have h2 : k.toNat < ns.length := by omega
  exact ⟨ns[k.toNat], atI_ok h0 rfl (by rw [List.getElem?_map, List.getElem?_eq_getElem h2]; rfl)⟩
theorem range_succ_map {α : Type} (f : Nat → α) (i : Nat) : (List.range (i + 1)).map f = (List.range i).map f ++ [f i] := by
  rw [List.range_succ, List.map_append]; rfl
theorem DtAll.snoc {K : PySem.W.Frag} {H : Hp} {v : List V} {d : List PyData} {x : V} {y : PyData} (h : DtAll K H v d) (k : Dt K H x y) : DtAll K H (v ++ [x]) (d ++ [y]) := h.append (.cons k .nil)
theorem same_lst {H H' : Hp} {p : Addr} {o : HO} (s : Same H H') (n : H p = none) : Same H (upd H' p o) := fun a u e => by
  rw [upd_ne (ne_of_none e n)]
  exact s a u e
theorem natAbs_abs {i : Int} : 0 ≤ (if i < 0 then -i else i) := by split <;> omega
theorem pick2 (b : Bool) (u v : Int) : atI [.int u, .int v] (if b = true then 1 else 0) = some (V.int (if b = true then v else u)) := by
  cases b <;> rfl
theorem ite_ge0 {b : Bool} {u v : Int} (h1 : 0 ≤ u) (h2 : 0 ≤ v) : 0 ≤ (if b = true then v else u) := by cases b <;> assumption
theorem mem_at {xs : List V} {k : Int} (h0 : 0 ≤ k) (h1 : k < xs.length) : ∃ v, v ∈ xs ∧ atI xs k = some v := by
  have h2 : k.toNat < xs.length := by omega
  exact ⟨xs[k.toNat], List.getElem_mem h2, atI_ok h0 rfl (List.getElem?_eq_getElem h2)⟩
/-! reading tuples of data -/
def atD (ds : List PyData) (i : Int) : Option PyData := (ixN ds.length i).bind fun j => ds[j]?
theorem DtAll.at {K : PySem.W.Frag} {H : Hp} {xs : List V} {ds : List PyData} {i : Int} {d : PyData} (h : DtAll K H xs ds) (e : atD ds i = some d) : ∃ v, atI xs i = some v ∧ Dt K H v d := by
  unfold atD at e
  unfold atI
  rw [h.length]
  cases q : ixN ds.length i with
  | none => rw [q] at e; cases e
  | some j =>
    rw [q] at e
    exact h.get e
theorem rix_dt {K : PySem.W.Frag} {H : Hp} {v : V} {i : Int} {ds : List PyData} {d : PyData} {Q : VK} (h : Dt K H v (.tuple ds)) (e : atD ds i = some d) (q : ∀ y, Dt K H y d → Q y H) : rIxT K v (.int i) H Q := by
  cases h with
  | tup hs ha =>
    obtain ⟨y, h1, h2⟩ := ha.at e
    exact ⟨_, _, _, _, rfl, rfl, hs, h1, q y h2⟩
theorem Dt.int_eq {K : PySem.W.Frag} {H : Hp} {v : V} {i : Int} (h : Dt K H v (.int i)) : v = .int i := by cases h; rfl
theorem Dt.str_eq {K : PySem.W.Frag} {H : Hp} {v : V} {i : Str} (h : Dt K H v (.str i)) : v = .str i := by cases h; rfl
theorem atD_nat {ds : List PyData} {j : Nat} {d : PyData} (e : ds[j]? = some d) : atD ds ((j : Nat) : Int) = some d := by
  have h := (List.getElem?_eq_some_iff.mp e).1
  unfold atD ixN
  rw [if_pos (by omega), if_pos (by omega)]
  exact e
theorem atD_last {ds : List PyData} {d : PyData} (h : 0 < ds.length) (e : ds[ds.length - 1]? = some d) : atD ds (-1) = some d := by
  unfold atD ixN
  rw [if_neg (by omega), if_pos (by omega)]
  show ds[((-1 : Int) + ds.length).toNat]? = some d
  rw [show ((-1 : Int) + ds.length).toNat = ds.length - 1 by omega]
  exact e
def tyD : PyData → String
  | .none => "NoneType"
  | .bool _ => "bool"
  | .int _ => "int"
  | .str _ => "str"
  | .list _ => "list"
  | .tuple _ => "tuple"
  | .dict _ => "dict"
theorem sqT_ty {K : PySem.W.Frag} {H : Hp} {a : Addr} {xs : List V} (h : SqT K H a xs) : TyX K H (.ref a) (.type "tuple") := by
  rcases h with (h | ⟨o, h⟩) | ⟨o, its, n, h1, h2, _⟩
  · exact .base (.tup h)
  · exact .fTuple h
  · exact .kTuple h1 h2
theorem Dt.ty {K : PySem.W.Frag} {H : Hp} {v : V} {d : PyData} (h : Dt K H v d) : TyX K H v (.type (tyD d)) := by
  cases h with
  | non => exact .base .non
  | bl b => exact .base (.bl b)
  | int i => exact .base (.int i)
  | str x => exact .base (.str x)
  | tup h _ => exact sqT_ty h
theorem neF {a b : Int} (h : a = b) : (!decide (V.int a = V.int b)) = false := by rw [h]; simp
theorem Dt.len {K : PySem.W.Frag} {H : Hp} {a : Addr} {ds : List PyData} (h : Dt K H (.ref a) (.tuple ds)) : ∃ xs, SqT K H a xs ∧ xs.length = ds.length ∧ DtAll K H xs ds := by
  cases h with
  | tup h hs => exact ⟨_, h, hs.length, hs⟩

structure okD (k : Nat) (d : PyData) : Prop where
  lay : d.canLay0 = true
  dep : d.depth ≤ k
theorem okD.mono {k l : Nat} {d : PyData} (h : okD k d) (e : k ≤ l) : okD l d := ⟨h.lay, Nat.le_trans h.dep e⟩
theorem okD_all {k : Nat} : ∀ {ds : List PyData}, (∀ d ∈ ds, okD k d) → PyData.canLayAll0 ds = true ∧ PyData.depthAll ds ≤ k
  | [], _ => ⟨rfl, Nat.zero_le _⟩
  | d :: ds, h => by
    have h1 := h d List.mem_cons_self
    have h2 := okD_all (ds := ds) fun x hx => h x (List.mem_cons_of_mem _ hx)
    refine ⟨?_, ?_⟩
    · show (PyData.canLay0 d && PyData.canLayAll0 ds) = true
      rw [h1.lay, h2.1]; rfl
    · show max (PyData.depth d) (PyData.depthAll ds) ≤ k
      exact Nat.max_le.mpr ⟨h1.dep, h2.2⟩
theorem okD.tuple {k : Nat} {ds : List PyData} (h : ∀ d ∈ ds, okD k d) : okD (k + 1) (.tuple ds) :=
  have q := okD_all h
  ⟨q.1, Nat.succ_le_succ q.2⟩
theorem okD.list {k : Nat} {ds : List PyData} (h : ∀ d ∈ ds, okD k d) : okD (k + 1) (.list ds) :=
  have q := okD_all h
  ⟨q.1, Nat.succ_le_succ q.2⟩
theorem okD.shaped {k : Nat} {d : PyData} (h : okD k d) (hk : k ≤ 64) : SeqAt.shaped d = true := by
  unfold SeqAt.shaped
  rw [h.lay, decide_eq_true (Nat.le_trans h.dep hk)]; rfl
theorem eqv_self {k : Nat} {d : PyData} (h : okD k d) : PyData.eqv d d = true := SeqAt.eqv_refl d h.lay
theorem rne_dt {K : PySem.W.Frag} {H : Hp} {x y : V} {k : Nat} {d : PyData} {Q : VK} (hx : Dt K H x d) (hy : Dt K H y d) (o : okD k d) (hk : k ≤ 64) (q : Q (.bl false) H) : rNeD K x y H Q :=
  ⟨d, d, hx.dp, hy.dp, o.shaped hk, o.shaped hk, by rw [eqv_self o]; exact q⟩
theorem req_dt {K : PySem.W.Frag} {H : Hp} {x y : V} {k : Nat} {d : PyData} {Q : VK} (hx : Dt K H x d) (hy : Dt K H y d) (o : okD k d) (hk : k ≤ 64) (q : Q (.bl true) H) : rEqD K x y H Q :=
  ⟨d, d, hx.dp, hy.dp, o.shaped hk, o.shaped hk, by rw [eqv_self o]; exact q⟩

theorem atD0 {ds : List PyData} {d : PyData} (e : ds[0]? = some d) : atD ds 0 = some d := atD_nat (j := 0) e
theorem atD1 {ds : List PyData} {d : PyData} (e : ds[1]? = some d) : atD ds 1 = some d := atD_nat (j := 1) e
theorem atD2 {ds : List PyData} {d : PyData} (e : ds[2]? = some d) : atD ds 2 = some d := atD_nat (j := 2) e
theorem atD3 {ds : List PyData} {d : PyData} (e : ds[3]? = some d) : atD ds 3 = some d := atD_nat (j := 3) e
theorem atDi {ds : List PyData} {d : PyData} {i : Int} {j : Nat} (h : i = (j : Int)) (e : ds[j]? = some d) : atD ds i = some d := by
  subst h
  exact atD_nat e

theorem floor_step {a b n : Int} (h : 0 < n) : b / n ≤ (a + b) / n - a / n ∧ (a + b) / n - a / n ≤ b / n + 1 := by
  have ha := Int.emod_add_mul_ediv a n
  have hb := Int.emod_add_mul_ediv b n
  have a0 := Int.emod_nonneg a (show n ≠ 0 by omega)
  have a1 := Int.emod_lt_of_pos a h
  have b0 := Int.emod_nonneg b (show n ≠ 0 by omega)
  have b1 := Int.emod_lt_of_pos b h
  have e : (a + b) / n = a / n + b / n + (a % n + b % n) / n := by
    have : a + b = (a % n + b % n) + n * (a / n + b / n) := by rw [Int.mul_add]; omega
    rw [this, Int.add_mul_ediv_left _ _ (by omega), Int.add_comm]
  have q0 : 0 ≤ (a % n + b % n) / n := Int.ediv_nonneg (by omega) (by omega)
  have q1 : (a % n + b % n) / n < 2 := by
    apply Int.ediv_lt_of_lt_mul h
    omega
  omega

theorem take_snoc {α : Type} {l : List α} {i : Nat} {x : α} (h : l[i]? = some x) : l.take (i + 1) = l.take i ++ [x] := by
  rw [List.take_add_one, h]; rfl
theorem map_int_get {acc : List Int} {i : Nat} {x : V} (h : (acc.map V.int)[i]? = some x) : ∃ z, acc[i]? = some z ∧ x = .int z := by
  rw [List.getElem?_map] at h
  cases e : acc[i]? with
  | none => rw [e] at h; cases h
  | some z =>
    rw [e] at h
    exact ⟨z, rfl, (Option.some.inj h).symm⟩

theorem Dt.ix {K : PySem.W.Frag} {H : Hp} {v : V} {i : Int} {ds : List PyData} {d : PyData} (h : Dt K H v (.tuple ds)) (e : atD ds i = some d) : ∃ a xs y, v = .ref a ∧ SqT K H a xs ∧ atI xs i = some y ∧ Dt K H y d := by
  cases h with
  | tup hs ha =>
    obtain ⟨y, h1, h2⟩ := ha.at e
    exact ⟨_, _, _, rfl, hs, h1, h2⟩

/-! displays of data -/
def EvD (K : PySem.W.Frag) (te : TE) (σ : L2.St) (H : Hp) (d : PyData) : Prop := ∀ Q : VK, (∀ v H', Same H H' → Dt K H' v d → Q v H') → te σ H Q
def EvDs (K : PySem.W.Frag) (ta : TA) (σ : L2.St) (H : Hp) (ds : List PyData) : Prop := ∀ Q : List V → Hp → Prop, (∀ vs H', Same H H' → DtAll K H' vs ds → Q vs H') → ta σ H Q
section
variable {K : PySem.W.Frag} {σ : L2.St} {H : Hp}
theorem evd_int {i : Int} : EvD K (tC (.int i)) σ H (.int i) := fun _ q => q _ _ (Same.refl _) (.int i)
theorem evd_str {i : Str} : EvD K (tC (.str i)) σ H (.str i) := fun _ q => q _ _ (Same.refl _) (.str i)
theorem evd_non : EvD K (tC .non) σ H .none := fun _ q => q _ _ (Same.refl _) .non
theorem evd_bl {b : Bool} : EvD K (tC (.bl b)) σ H (.bool b) := fun _ q => q _ _ (Same.refl _) (.bl b)
theorem evd_nil : EvDs K tNil σ H [] := fun _ q => q _ _ (Same.refl _) .nil
theorem evd_cons {te : TE} {ta : TA} {d : PyData} {ds : List PyData} (h : EvD K te σ H d) (hr : ∀ H', EvDs K ta σ H' ds) : EvDs K (tCons te ta) σ H (d :: ds) := fun Q q =>
  h _ fun v H1 s1 d1 => hr H1 _ fun vs H2 s2 d2 => q _ _ (s1.trans s2) (.cons (d1.mono (Fz.of_same s2)) d2)
theorem evd_tup {ta : TA} {ds : List PyData} (h : EvDs K ta σ H ds) (hl : ds.length ≤ 1000) : EvD K (tTup ta) σ H (.tuple ds) := fun Q q =>
  h _ fun vs H1 s1 d1 => ⟨szL (by rw [d1.length]; exact hl), fun p hp => q _ _ (s1.trans (same_new hp)) (.tup (SqT.of upd_same) (d1.mono (Fz.new hp)))⟩
end
theorem same_but {b : Addr} {H H1 H2 : Hp} (s : Same H H1) (k : But b H1 H2) (n : H b = none) : Same H H2 := fun a o h => k a o (ne_of_none h n) (s a o h)

theorem rel_ref (a : Addr) : RelV (.ref a) (Value.ref a) := rfl
end Rs
/-! Own exceptions with a field; objects made within a try. -/
namespace Rs
open PySem PySem.Spec PyProof.Rows L2
/-! ### C(e, ..) where what its __init__ lets out is wished for at the caller's slots -/
section
variable {X : Cx} {CX : CXT} {k : Nat} {f C : Addr} {fd : FuncData} {ps : List Str} {sp : Sp} {E : L2.St → XK} {x : Str} {p pos : Pos} {e : Expr} {es : List Expr} {t : TA}
theorem run_makeS {pins : List (Addr × Obj)} {σ : L2.St} {H : Hp} {s : Shared} {Q : VK} {us : List Value} {vs : List V} (M : Mk X.K C f) (F : FnOk X.prog X.w X.K X.mg X.base CX k f fd ps sp) (hr : Room (k + 1) X.A) (hb : Binds X.K fd ps [])
    (hx : PassesAt CX X σ (E σ)) (I : Inv X pins σ H s) (r : Vals vs us)
    (pre : ∀ x dx, H x = none → H dx = none → dx ≠ x → sp (.ref x :: vs) (upd (upd H dx (.own x)) x (.ins C dx [])) (fun v H2 => v = .non ∧ Q (.ref x) H2) (E σ))
    (out : ∀ H1 s1 e s2, Inv X pins σ H1 s1 → L2.CX X.prog X.w X.stack H1 s1 (E σ) e s2 → X.xe e s2) (hCX : CX = L2.CX X.prog X.w) :
    wpAny (model X.prog X.w) X.A (call (.ref C) us) (EP X pins σ Q) X.xe s := by
  subst hCX
  have p0 := pre (s.heap.objs.size + 1) s.heap.objs.size (I.hok.fresh (Nat.le_succ _)) (I.hok.fresh (Nat.le_refl _)) (Nat.ne_of_lt (Nat.lt_succ_self _))
  have J := Inv.made (C := C) I
  have rel : Vals (V.ref (s.heap.objs.size + 1) :: vs) (Value.ref (s.heap.objs.size + 1) :: us) := .cons rfl r
  have n1 : (Value.ref (s.heap.objs.size + 1) :: us).length = ps.length := by rw [← rel.length]; exact F.len _ _ _ _ p0
  have bd := hb _ (Value.ref (s.heap.objs.size + 1) :: us) J.kIn (by rw [List.append_nil]; exact n1)
  rw [List.append_nil] at bd
  have ran := F.run _ X.stack _ _ ⟨Value.ref (s.heap.objs.size + 1) :: us, []⟩ _ _ _ (E σ) (hr.make C us []) (J.env0.make C us []) bd rel p0
  refine wpAny_call (make_map (f := f) I.kIn M.makes M.init (beq_iff_eq.mp M.fn) (codeAny_mono ran fun r s' got => ?_))
  cases r with
  | error e => exact out _ _ _ _ J got
  | ok fl =>
    cases fl with
    | next => exact got.elim
    | brk => exact got.elim
    | cont => exact got.elim
    | ret u =>
      obtain ⟨v, H', J2, rv, rfl, q⟩ := J.after got
      exact ⟨rv, .ref (s.heap.objs.size + 1), H', J2, rfl, q⟩
def tMakeS (C : Addr) (sp : Sp) (E : L2.St → XK) (t : TA) : TE := fun σ H Q => t σ H fun vs H1 => ∀ x dx, H1 x = none → H1 dx = none → dx ≠ x →
  sp (.ref x :: vs) (upd (upd H1 dx (.own x)) x (.ins C dx [])) (fun v H2 => v = .non ∧ Q (.ref x) H2) (E σ)
theorem pe_makeS {W : WX} (M : Mk X.K C f) (F : FnOk X.prog X.w X.K X.mg X.base (L2.CX X.prog X.w) k f fd ps sp) (hr : Room (k + 1) X.A) (hg : Gl X x) (hm : X.mg x = some (.ref C)) (hb : Binds X.K fd ps []) (tk : Takes X W)
    (ha : PA X (e :: es) t) (hdb : (x == ("__debug__" : Str)) = false := by decide) (he : starEach (e :: es) X.env = (false, eval e X.env) :: starEach es X.env := by rfl) (hpl : (backTo pos (starEach es X.env)).any (·.1) = false := by rfl) :
    PE X (.Call (.Name x p) (e :: es) [] pos) (tMakeS C sp (WE W) t) := by
  refine ⟨fun pins s σ H Q I h => wpAny_Call_Name_kw (ld_glob I hg hm ?_ hdb)⟩
  refine PySem.W.callWith_K (h₀ := X.base) I.ok.mod.kin M.kp (thn (ha.run pos pins s σ H _ I h) fun us s1 res => ?_) he hpl
  obtain ⟨vs, H1, I1, r, q⟩ := res
  exact ⟨I1.kIn, run_makeS M F hr hb (passAt tk σ) I1 r q (fun H1 s1 e s2 J c => tk e s2 (XE.of_call J (fun _ _ _ h => h) c)) rfl⟩
end
/-! ### isinstance of a caught exception that has a field -/
structure ExX (K : PySem.W.Frag) (C : Addr) : Prop where
  cl : (PySem.W.clsIn K C).isSome = true
  ga : PySem.W.findIn K (.ref C) "__getattribute__" = some (some (.builtin "BaseException.__getattribute__"))
  gg : PySem.W.findIn K (.ref C) "__getattr__" = some none
  sb : PySem.W.subIn K (.ref C) (.type "BaseException") = some true
  ca : PySem.W.findIn K (.ref C) "__class__" = some (some (.builtin "object.__class__"))
  sp : PySem.W.specialIn K (.builtin "object.__class__") "__get__" = some (some (.builtin "getset_descriptor.__get__"))
  tk : PySem.W.takesIn K (.builtin "object.__class__") = some true
  mo : PySem.W.mroIn K C (.type "object") = some true
section
variable {X : Cx} {pins : List (Addr × Obj)} {σ : L2.St} {H : Hp} {s : Shared} {a C : Addr} {oe : Obj} {cls : Value} {d : Option Addr} {pn : List (Addr × Obj)}
theorem caught_at (I : Inv (X.suite a ((a, oe) :: pn)) pins σ H s) (hz : Zc cls d oe) (hf : ∃ vs, oe.data = .fields vs) {dd : Addr} {fs : List (Str × V)} (ec : cls = .ref C) (ed : d = some dd) (hd : H dd = some (.xd fs)) :
    ∃ od, PySem.W.InstAt s.heap a oe C (some od) := by
  subst ec ed
  obtain ⟨here, _⟩ := I.pin (a, oe) (List.mem_append_left _ List.mem_cons_self)
  obtain ⟨vs, hv⟩ := hf
  obtain ⟨mA, ns, _⟩ := (show ObjOk X.prog X.w H s.heap dd (.xd fs) from I.hok dd _ hd)
  obtain ⟨od, ho, _⟩ := lookIn_ns ns
  exact ⟨od, here, hz.1, by unfold PySem.W.notCls; rw [hv] <;> rfl, by rw [hz.2]; exact ho⟩
def rIsX (K : PySem.W.Frag) (a : Addr) (cls : Value) (d : Option Addr) (C : Addr) : List V → Hp → VK → Prop := fun xs H Q => ∃ (c : V) (cv : Value) (b : Bool) (dd : Addr) (fs : List (Str × V)), xs = [.ref a, c] ∧ ClsV c cv ∧ cls = .ref C ∧ d = some dd ∧ H dd = some (.xd fs) ∧ PySem.W.kitOne K (.ref C) cv = some b ∧ Q (.bl b) H
theorem call_isX (T : ExX X.K C) (hz : Zc cls d oe) (hf : ∃ vs, oe.data = .fields vs) : CallR (X.suite a ((a, oe) :: pn)) (.builtin "isinstance") (rIsX X.K a cls d C) := by
  intro pins s σ H xs us Q I r h
  obtain ⟨c, cv, b, dd, fs, rfl, kc, ec, ed, hd, e, q⟩ := h
  obtain ⟨u1, u2, rfl, r1, r2⟩ := vals2 r
  obtain rfl := kc.eq r2
  cases (show u1 = Value.ref a from r1)
  obtain ⟨od, J⟩ := caught_at I hz hf ec ed hd
  exact PySem.W.kia_one (PySem.W.kitx_exc T.cl T.ga T.gg T.sb T.ca T.sp T.tk T.mo) I.kIn J e (fun z => nomatch z) fun tk => ⟨.bl b, H, I.tok tk, rfl, q⟩
def rIsXT (K : PySem.W.Frag) (a : Addr) (cls : Value) (d : Option Addr) (C : Addr) : List V → Hp → VK → Prop := fun xs H Q => ∃ (tp : Addr) (cs : List V) (ws : List Value) (b : Bool) (dd : Addr) (fs : List (Str × V)), xs = [.ref a, .ref tp] ∧ H tp = some (.tup cs) ∧ Paired ClsV cs ws ∧
  cls = .ref C ∧ d = some dd ∧ H dd = some (.xd fs) ∧ PySem.W.kitAny K (.ref C) ws = some b ∧ Q (.bl b) H
theorem call_isXT (T : ExX X.K C) (hz : Zc cls d oe) (hf : ∃ vs, oe.data = .fields vs) : CallR (X.suite a ((a, oe) :: pn)) (.builtin "isinstance") (rIsXT X.K a cls d C) := by
  intro pins s σ H xs us Q I r h
  obtain ⟨tp, cs, ws, b, dd, fs, rfl, hT, kc, ec, ed, hd, e, q⟩ := h
  obtain ⟨u1, u2, rfl, r1, r2⟩ := vals2 r
  cases (show u1 = Value.ref a from r1)
  cases (show u2 = Value.ref tp from r2)
  obtain ⟨od, J⟩ := caught_at I hz hf ec ed hd
  obtain ⟨_, its, rv, o, h1, h2, n, h3⟩ := (show ObjOk X.prog X.w H s.heap tp (.tup cs) from I.hok tp _ hT)
  obtain rfl := ClsV.all kc rv
  obtain ⟨oc, od', dt, sl⟩ := o
  simp only at h2 h3
  subst h2 h3
  exact PySem.W.kia_tup (PySem.W.kitx_exc T.cl T.ga T.gg T.sb T.ca T.sp T.tk T.mo) I.kIn J h1 e (fun z => nomatch z) fun tk => ⟨.bl b, H, I.tok tk, rfl, q⟩
end
/-! ### the promise of an __init__(self, word): self.word = word -/
def spExc (C : Addr) (f : Str) : Sp := fun vs H Q _ => ∃ (a : Addr) (v : V), vs = [.ref a, v] ∧ H a = some (exo a C none) ∧ ∀ dx, H dx = none → dx ≠ a → Q .non (upd (upd H dx (exd dx [(f, v)])) a (exo a C (some dx)))
/-- the heap behind an exception's making -/
theorem made_heap {H : Hp} {a dx : Addr} {o1 o2 o3 o : HO} (ha : H a = none) (ne : dx ≠ a) : upd (del (upd (upd (upd H a o1) dx o2) a o3) a) dx o = upd H dx o := by
  funext b
  by_cases h1 : b = dx
  · subst h1; rw [upd_same, upd_same]
  · rw [upd_ne h1, upd_ne h1]
    by_cases h2 : b = a
    · subst h2; rw [del_same, ha]
    · rw [del_ne h2, upd_ne h2, upd_ne h1, upd_ne h2]
/-- what C(v) asks, where C's __init__ keeps spExc: its dict is new, the rest as it was -/
theorem make_exc {C : Addr} {f : Str} {v : V} {σ : L2.St} {H : Hp} {Q : XK} (h : ∀ d, H d = none → Q (.ref C) (some d) (upd H d (.xd [(f, v)]))) : tMkO C (spExc C f) [] (tCons (tC v) tNil) σ H Q := by
  refine ⟨by show 1 ≤ 1000; decide, fun a ha => ⟨a, v, rfl, upd_same, fun dx hdx ne => ⟨rfl, dx, [(f, v)], upd_same, by rw [upd_ne ne, upd_same], ?_, ?_⟩⟩⟩
  · rw [upd_ne ne] at hdx
    exact hdx
  · rw [made_heap ha ne]
    exact h dx (by rw [upd_ne ne] at hdx; exact hdx)
end Rs
/-! Values of any kind, told by their outermost shape. -/
namespace Rs
open PySem PySem.Spec PyProof.Rows L2
def Sh (b : Addr) (H : Hp) : V → Prop
  | .non => True
  | .bl _ => True
  | .int _ => True
  | .str _ => True
  | .ref a => a ≠ b ∧ ((∃ xs, H a = some (.lst xs)) ∨ ∃ xs, H a = some (.tup xs))
  | _ => False
theorem Sh.but {b : Addr} {H H' : Hp} {v : V} (h : Sh b H v) (k : But b H H') : Sh b H' v := by
  cases v with
  | ref a =>
    obtain ⟨ne, ⟨xs, e⟩ | ⟨xs, e⟩⟩ := h
    · exact ⟨ne, .inl ⟨xs, k a _ ne e⟩⟩
    · exact ⟨ne, .inr ⟨xs, k a _ ne e⟩⟩
  | non => trivial
  | bl _ => trivial
  | int _ => trivial
  | str _ => trivial
  | byt _ => exact h
  | flt _ => exact h
  | ty _ => exact h
def isInt : V → Bool
  | .int _ => true
  | _ => false
def isBl : V → Bool
  | .bl _ => true
  | _ => false
theorem Sh.ty {K : PySem.W.Frag} {b : Addr} {H : Hp} {v : V} (h : Sh b H v) : ∃ t, TyX K H v (.type t) ∧ kitB t "int" = some (isInt v || isBl v) ∧ kitB t "bool" = some (isBl v) := by
  cases v with
  | non => exact ⟨"NoneType", .base .non, by decide +kernel, by decide +kernel⟩
  | bl x => exact ⟨"bool", .base (.bl x), (by decide +kernel : kitB "bool" "int" = some true), (by decide +kernel : kitB "bool" "bool" = some true)⟩
  | int x => exact ⟨"int", .base (.int x), (by decide +kernel : kitB "int" "int" = some true), (by decide +kernel : kitB "int" "bool" = some false)⟩
  | str x => exact ⟨"str", .base (.str x), (by decide +kernel : kitB "str" "int" = some false), (by decide +kernel : kitB "str" "bool" = some false)⟩
  | ref a =>
    obtain ⟨ne, ⟨xs, e⟩ | ⟨xs, e⟩⟩ := h
    · exact ⟨"list", .base (.lst e), (by decide +kernel : kitB "list" "int" = some false), (by decide +kernel : kitB "list" "bool" = some false)⟩
    · exact ⟨"tuple", .base (.tup e), (by decide +kernel : kitB "tuple" "int" = some false), (by decide +kernel : kitB "tuple" "bool" = some false)⟩
  | byt _ => exact h.elim
  | flt _ => exact h.elim
  | ty _ => exact h.elim
/-- whether a value is an integer that is no bool -/
def spWhole : Sp := fun vs H Q _ => ∃ (b : Addr) (v : V), vs = [v] ∧ Sh b H v ∧ Q (.bl (isInt v)) H
theorem isInt_bl {v : V} : (isInt v || isBl v) = true → (!isBl v) = isInt v := by cases v <;> simp [isInt, isBl]
theorem isInt_no {v : V} : (isInt v || isBl v) = false → false = isInt v := by cases v <;> simp [isInt, isBl]
/-- repr of None and of a text -/
def reprV : V → Str
  | .str x => reprText x
  | _ => "None"
theorem call_repr1 {X : Cx} : CallR X (.builtin "repr") (fun xs H Q => ∃ v, xs = [v] ∧ (v = .non ∨ ∃ x : Str, v = .str x ∧ (reprText x).length ≤ sizeLine) ∧ Q (.str (reprV v)) H) := by
  intro pins s σ H xs us Q I r h
  obtain ⟨v, rfl, rfl | ⟨x, rfl, ln⟩, q⟩ := h
  · obtain ⟨u, rfl, ru⟩ := vals1 r
    obtain rfl : u = Value.none := ru
    exact PySem.P.repr_of_none ⟨.str _, H, I.tok _, ⟨_, rfl⟩, q⟩
  · obtain ⟨u, rfl, t, rfl⟩ := vals1 r
    exact PySem.P.repr_of_str ⟨.str _, H, I.tok _, ⟨_, rfl⟩, q⟩ ln
theorem but_new {b D : Addr} {H H' : Hp} {o : HO} (k : But b H H') (n : H D = none) : But b H (upd H' D o) := fun a u ne e => by
  rw [upd_ne (ne_of_none e n)]
  exact k a u ne e
theorem box_ne {b D : Addr} {H : Hp} {o : HO} (B : Box H b) (ne : D ≠ b) : Box (upd H D o) b := by
  obtain ⟨x, y, z, h, i⟩ := B
  exact ⟨x, y, z, by rw [upd_ne ne.symm]; exact h, i⟩

theorem look1 {f : Str} {v : V} : List.lookup f [(f, v)] = some v := by simp [List.lookup]
theorem Sh.set {b t : Addr} {H : Hp} {v : V} {xs ys : List V} (h : Sh b H v) (e : H t = some (.lst xs)) : Sh b (upd H t (.lst ys)) v := by
  cases v with
  | ref a =>
    obtain ⟨ne, q⟩ := h
    refine ⟨ne, ?_⟩
    by_cases c : a = t
    · subst c
      exact .inl ⟨_, upd_same⟩
    · rw [upd_ne c]
      exact q
  | non => trivial
  | bl _ => trivial
  | int _ => trivial
  | str _ => trivial
  | byt _ => exact h
  | flt _ => exact h
  | ty _ => exact h
end Rs
/-! == and != by an own __eq__, with either answer, of anything. -/
namespace Rs
open PySem PySem.Spec PyProof.Rows L2
/-- what of the class at C: its own __eq__ is g, its != is object's -/
structure OwnQ (K : PySem.W.Frag) (C g : Addr) : Prop where
  eq : PySem.W.findIn K (.ref C) "__eq__" = some (some (.ref g))
  fn : PySem.W.isFn K (.ref g) = true
  ne : PySem.W.findIn K (.ref C) "__ne__" = some (some (.builtin "object.__ne__"))
  mo : PySem.W.mroIn K C (.type "object") = some true
section
variable {M : Model} {prog : Program} {w : World} {A : Around} {E : Value → Shared → Prop} {s : Shared} {K : PySem.W.Frag} {x C f L : Addr} {ox : Obj} {od : Option Obj} {h₀ : Heap} {m : Str → Option Value} {b tb : Value}
theorem ifBound_objNe {args : List Value} {Q : Option Value → Shared → Prop} (X : K.In s.heap) (I : PySem.W.InstAt s.heap x ox C od) (hs : PySem.W.findIn K (.ref C) "__ne__" = some (some (.builtin "object.__ne__")))
    (h : wpAny M A (call (.builtin "object.__ne__") (.ref x :: args)) (fun v => Q (some v)) E s) : wpAny M A (callSpecialIfBound? (.ref x) "__ne__" args) Q E s := by
  simp only [callSpecialIfBound?, bindSpecialIfBound?]
  refine wpAny_holding (wpAny_bind (wpAny_bind (wpAny_bind (I.type.here ((PySem.W.looks_findIn X hs).here ?_)))))
  refine wpAny_bind (wpAny_askSetting (wpAny_ite ?_))
  have fin : wpAny M A (call (.builtin "object.__ne__") ([.ref x] ++ args) >>= fun v => pure (some v)) Q E s := wpAny_bind (wpAny_mono h (fun v s' h' => wpAny_pure h') fun _ _ h' => h')
  split
  · exact wpAny_bind (wpAny_of_eq (F.cmp_object.ne.bind _) (wpAny_pure (by exact fin)))
  · exact wpAny_tryCatch (wpAny_bind (wpAny_of_eq (F.cmp_object.ne.bind _) (wpAny_pure (by exact fin))))
theorem objNe_entry (hu : A.units < cLine) (X : K.In s.heap) (I : PySem.W.InstAt s.heap x ox C od) (O : OwnQ K C f) {Q : Fin → Shared → Prop}
    (hcall : wpAny (model prog w) A (call (.ref f) [.ref x, b]) (fun v s' => ∃ r, v = .bool r ∧ Q (.done (.ret (.bool (!r)))) s') E s) :
    wpAny (model prog w) A (Builtin.«object.__ne__» ⟨[.ref x, b], []⟩) Q E s := by
  unfold Builtin.«object.__ne__»
  repeat (first
    | with_reducible refine wpAny_cRoomFor hu ?_
    | (refine wpAny_bind (m := callSpecialIfBound? (.ref x) (Str.ofString "__eq__") [b])
        (PySem.W.ifBound_K X I O.eq O.fn (wpAny_mono hcall (fun v s' hr => by
          obtain ⟨r, rfl, hq⟩ := hr
          repeat (first | exact hq | exact wpAny_pure hq | exact wpAny_truthy_bool hq | (refine wpAny_bind (m := truthy (.bool _)) (wpAny_truthy_bool ?_)) | wp_step)) fun _ _ e => e)))
    | wp_step)
theorem tryCompare_neO (hu : A.units + 1 < cLine) (X : K.In s.heap) (I : PySem.W.InstAt s.heap x ox C od) (O : OwnQ K C f) {Q : Option Value → Shared → Prop}
    (hcall : wpAny (model prog w) A.in1 (call (.ref f) [.ref x, b]) (fun v s' => ∃ r, v = .bool r ∧ Q (some (.bool (!r))) s') E s) : wpAny (model prog w) A (tryCompare (.ref x) "__ne__" b) Q E s := by
  simp only [tryCompare]
  refine wpAny_bind (ifBound_objNe X I O.ne (wpAny_call (codeAny_call_builtin F.cmp_object.ne.plain F.cmpEntry_ne
    (PySem.W.check_slot F.cmpKind_ne F.cmpSplit_ne (I.type.andThen (PySem.W.looks_mroIn X O.mo)) (F.cmpArgs_ne _ _)
      (objNe_entry (A := A.in1) hu X I O (wpAny_mono hcall (fun v s' hv => ?_) fun _ _ e => e))))))
  obtain ⟨r, rfl, hq⟩ := hv
  first | exact ⟨r, rfl, wpAny_pure hq⟩ | exact ⟨r, rfl, wpAny_pure (wpAny_pure hq)⟩ | exact ⟨r, rfl, hq⟩
theorem rc_neO (hu : A.units + 1 < cLine) (X : K.In s.heap) (I : PySem.W.InstAt s.heap x ox C od) (O : OwnQ K C f) (hb : PySem.W.Looks (model prog w) s.heap (typeOf b) tb) (hn : PySem.W.notFirst K C tb = true) {Q : Value → Shared → Prop}
    (hcall : wpAny (model prog w) A.in1 (call (.ref f) [.ref x, b]) (fun v s' => ∃ r, v = .bool r ∧ Q (.bool (!r)) s') E s) : wpAny (model prog w) A (richCompare .NotEq (.ref x) b) Q E s := by
  have one : wpAny (model prog w) A (tryCompare (.ref x) "__ne__" b) (fun r s' => ∃ v, r = some v ∧ Q v s') E s := tryCompare_neO hu X I O (wpAny_mono hcall (fun v s' hv => by
    obtain ⟨r, rfl, hq⟩ := hv
    exact ⟨r, rfl, _, rfl, hq⟩) fun _ _ e => e)
  unfold richCompare
  simp only [oneThing_ref]
  refine wpAny_holding (wpAny_bind (wpAny_cRoomFor (Nat.lt_of_succ_lt hu) ?_))
  refine wpAny_bind (I.type.here (wpAny_bind (hb.here ?_)))
  split
  · rename_i q
    have e : PySem.W.subIn K tb (.ref C) = some false := by
      rcases Bool.or_eq_true_iff.mp hn with e | e
      · rw [beq_iff_eq.mp e] at q; simp at q
      · exact beq_iff_eq.mp e
    refine wpAny_bind ((PySem.W.looks_subIn X e).here ?_)
    simp only [Bool.false_eq_true, if_false]
    refine wpAny_bind (wpAny_mono one (fun r s' z => ?_) fun _ _ e => e)
    obtain ⟨v, rfl, hq⟩ := z
    exact wpAny_pure hq
  · refine wpAny_bind (wpAny_pure ?_)
    simp only [Bool.false_eq_true, if_false]
    refine wpAny_bind (wpAny_mono one (fun r s' z => ?_) fun _ _ e => e)
    obtain ⟨v, rfl, hq⟩ := z
    exact wpAny_pure hq
end
theorem notFirst_ty {K : PySem.W.Frag} {C : Addr} {T : String} {ns : List String} (e : fastBuiltinMro T = some (ns.map Value.type)) : PySem.W.notFirst K C (.type T) = true := by
  have : PySem.W.subIn K (.type T) (.ref C) = some false := by
    show (fastBuiltinMro T).map (·.contains (.ref C)) = some false
    rw [e]
    simp
  unfold PySem.W.notFirst
  rw [this]
  simp
theorem notFirst_self {K : PySem.W.Frag} {C : Addr} : PySem.W.notFirst K C (.ref C) = true := by simp [PySem.W.notFirst]
theorem nf_none {K : PySem.W.Frag} {C : Addr} : PySem.W.notFirst K C (.type "NoneType") = true := notFirst_ty (ns := ["NoneType", "object"]) (by decide +kernel)
theorem nf_bool {K : PySem.W.Frag} {C : Addr} : PySem.W.notFirst K C (.type "bool") = true := notFirst_ty (ns := ["bool", "int", "object"]) (by decide +kernel)
theorem nf_int {K : PySem.W.Frag} {C : Addr} : PySem.W.notFirst K C (.type "int") = true := notFirst_ty (ns := ["int", "object"]) (by decide +kernel)
theorem nf_str {K : PySem.W.Frag} {C : Addr} : PySem.W.notFirst K C (.type "str") = true := notFirst_ty (ns := ["str", "object"]) (by decide +kernel)
theorem nf_list {K : PySem.W.Frag} {C : Addr} : PySem.W.notFirst K C (.type "list") = true := notFirst_ty (ns := ["list", "object"]) (by decide +kernel)
theorem nf_tuple {K : PySem.W.Frag} {C : Addr} : PySem.W.notFirst K C (.type "tuple") = true := notFirst_ty (ns := ["tuple", "object"]) (by decide +kernel)
section
variable {X : Cx} {CX : CXT} {pins : List (Addr × Obj)} {σ : L2.St} {H : Hp} {s : Shared} {C g : Addr} {n : Nat} {sp : Sp} {E : XK} {x : V} {u t : Value}
theorem ty_looks {M : Model} (I : Inv X pins σ H s) (rx : RelV x u) (ty : TyX X.K H x t) : PySem.W.Looks M s.heap (typeOf u) t := by
  obtain ⟨P, Z, hp, _⟩ := kit_of I rx ty
  exact Z.ty _ _ I.kIn hp
theorem ins_at {a dx : Addr} {fs : List (Str × V)} (I : Inv X pins σ H s) (h : H a = some (.ins C dx fs)) : ∃ ox od, PySem.W.InstAt s.heap a ox C od := by
  obtain ⟨mA, J, _⟩ := ins_get I.hok h
  obtain ⟨od, J, _⟩ := J.look
  exact ⟨_, _, J⟩
/-- x == y, x an instance of the class at C with its own __eq__ -/
def rEqO (K : PySem.W.Frag) (C : Addr) (sp : Sp) (E : XK) : R2 := fun x y H Q => ∃ a dx fs tb, x = .ref a ∧ H a = some (.ins C dx fs) ∧ TyX K H y tb ∧ PySem.W.notFirst K C tb = true ∧ sp [x, y] H Q E
theorem op_eqO (O : OwnQ X.K C g) (F : FnR X.prog X.w X.K X.mg X.base CX n g sp) (hr : Room n X.A) (hx : Passes CX X E) : OpR X (compareOp .Eq) (rEqO X.K C sp E) := by
  intro pins s σ H x y v u Q I rx ry h
  obtain ⟨a, dx, fs, tb, rfl, ha, ty, hn, q⟩ := h
  cases (show v = Value.ref a from rx)
  obtain ⟨ox, od, J⟩ := ins_at I ha
  obtain ⟨m, hF⟩ := I.fr
  show wpAny (model X.prog X.w) X.A (richCompare .Eq (.ref a) u) (EP X pins σ Q) X.xe s
  refine PySem.W.cmp_K (op := .Eq) (tb := tb) hr.units0 hF I.ok.mod.kin J (ty_looks I ry ty) hn O.eq O.fn ?_
  refine wpAny_mono (wpAny_call (run_fnR (us := [.ref a, u]) (vs := [.ref a, y]) F hr hx I (.cons rfl (.cons ry .nil)) q)) (fun w s' z => ?_) fun _ _ x => x
  obtain ⟨z', H', I', rz, qz⟩ := z
  exact SlX.cmpback rz ⟨z', H', I', rz, qz⟩
/-- x != y -/
def rNeO (K : PySem.W.Frag) (C : Addr) (sp : Sp) (E : XK) : R2 := fun x y H Q => ∃ a dx fs tb, x = .ref a ∧ H a = some (.ins C dx fs) ∧ TyX K H y tb ∧ PySem.W.notFirst K C tb = true ∧ sp [x, y] H (fun z H' => ∃ r, z = .bl r ∧ Q (.bl (!r)) H') E
theorem op_neO (O : OwnQ X.K C g) (F : FnR X.prog X.w X.K X.mg X.base CX n g sp) (hr : Room (n + 1) X.A) (hx : Passes CX X E) : OpR X (compareOp .NotEq) (rNeO X.K C sp E) := by
  intro pins s σ H x y v u Q I rx ry h
  obtain ⟨a, dx, fs, tb, rfl, ha, ty, hn, q⟩ := h
  cases (show v = Value.ref a from rx)
  obtain ⟨ox, od, J⟩ := ins_at I ha
  show wpAny (model X.prog X.w) X.A (richCompare .NotEq (.ref a) u) (EP X pins σ Q) X.xe s
  have hr1 : Room n X.A.in1 := Room.in1 hr
  refine rc_neO (C := C) (f := g) (tb := tb) (by have := hr.un; omega) I.kIn J O (ty_looks I ry ty) hn ?_
  refine wpAny_mono (wpAny_call (SlX.run_at (us := [.ref a, u]) (ws := [.ref a, y]) F hr1 I.env0.in1 hx I (.cons rfl (.cons ry .nil)) q)) (fun w s' z => ?_) fun _ _ x => x
  obtain ⟨z', H', I', rz, r, ez, qz⟩ := z
  subst ez
  cases (show w = Value.bool r from rz)
  exact ⟨r, rfl, .bl (!r), H', I', rfl, qz⟩
end
end Rs
/-! A built-in value == an instance with an own __eq__; such an instance in a tuple. -/
namespace Rs
open PySem PySem.Spec PyProof.Rows PySem.SeqAt L2 SeqRoads2 MeetsSeq MeetsSeq2 MeetsSeq3
open AutoSeq1 (wpAny_loadPart')
section
variable {prog : Program} {w : World} {A : Around} {E : Value → Shared → Prop} {s : Shared} {K : PySem.W.Frag} {x C f : Addr} {ox : Obj} {od : Option Obj}
theorem rc_eqR {T id : String} {u : Value} {Q : Value → Shared → Prop} (hu : A.units < cLine) (X : K.In s.heap) (I : PySem.W.InstAt s.heap x ox C od) (O : OwnQ K C f) (hT : s.TypeIs u T) (S : Slot T "__eq__" id)
    (hm : PySem.W.mroIn K C (.type T) = some false) (decl : wpAny (model prog w) A (call (.builtin id) [u, .ref x]) (fun v s' => v = .notImplemented ∧ s' = s) E s)
    (h : wpAny (model prog w) A (call (.ref f) [.ref x, u]) (PySem.W.CmpBack Q) E s) : wpAny (model prog w) A (richCompare .Eq u (.ref x)) Q E s := by
  have one : wpAny (model prog w) A (tryCompare u "__eq__" (.ref x)) (fun r s' => r = none ∧ s' = s) E s :=
    wpAny_tryCompare_declines hT S (wpAny_mono decl (fun v s' z => ⟨z.1, rfl, z.2⟩) fun _ _ e => e)
  have two : wpAny (model prog w) A (tryCompare (.ref x) "__eq__" u) (fun r s' => ∃ v, r = some v ∧ Q v s') E s := by
    unfold tryCompare
    refine wpAny_bind (PySem.W.ifBound_K X I O.eq O.fn (wpAny_mono h (fun v s' hv => ?_) fun _ _ e => e))
    cases v <;> first | exact hv.elim | exact wpAny_pure ⟨_, rfl, hv⟩
  simp only [richCompare, cmpInfo_Eq, hT.oneThing_none]
  refine wpAny_holding (wpAny_bind (wpAny_cRoomFor hu ?_))
  refine wpAny_bind (wpAny_typeOf hT ?_)
  refine wpAny_bind (I.type.here ?_)
  split
  · refine wpAny_bind ((PySem.W.looks_subIn X (t := .ref C) (base := .type T) hm).here ?_)
    simp only [Bool.false_eq_true, if_false, Bool.not_false, if_true]
    refine wpAny_bind (m := tryCompare u _ (.ref x)) (wpAny_mono one (fun r s1 z => ?_) fun _ _ e => e)
    obtain ⟨z1, z2⟩ := z
    subst z1
    subst z2
    refine wpAny_bind (m := tryCompare (.ref x) _ u) (wpAny_mono two (fun r s2 z => ?_) fun _ _ e => e)
    obtain ⟨v, rfl, hq⟩ := z
    exact wpAny_pure hq
  · rename_i q
    exact absurd (by simp) q
theorem str_eq_ins (a : Str) (t : Tok) (x C dx : Addr) : Meets (Builtin.«str.__eq__» ⟨[.str a t, .ref x], []⟩) (fun _ R s => s.heap.get? x = some (PySem.W.instObj C dx) ∧ R (.ok (.ret .notImplemented)) s) :=
  .of_wp fun prog w A R s h => by
    obtain ⟨hp, g, d, tk, os⟩ := s; obtain ⟨hl, h⟩ := h
    unfold PySem.W.instObj at hl
    wp_walk using wpAny_loadPart' hl
    exact ⟨_, rfl, h⟩
theorem wpAny_sub' {M : Model} {A : Around} {E : Value → Shared → Prop} {h : Heap} {g : Array GenState} {d : Drawn} {t : Nat} {os : OsState} {a b : Value} {r : Bool} {Q : Bool → Shared → Prop}
    (x : PySem.W.Looks M h (isSubtype a b) r) (hq : Q r ⟨h, g, d, t, os⟩) : wpAny M A (isSubtype a b) Q E ⟨h, g, d, t, os⟩ := PySem.W.Looks.here (s := ⟨h, g, d, t, os⟩) x hq
theorem tuple_eq_ins (l x C dx : Addr) (hm : PySem.W.mroIn K C (.type "tuple") = some false) :
    Meets (Builtin.«tuple.__eq__» ⟨[.ref l, .ref x], []⟩) (fun _ R s => K.In s.heap ∧ s.heap.get? x = some (PySem.W.instObj C dx) ∧ R (.ok (.ret .notImplemented)) s) :=
  .of_wp fun prog w A R s h => by
    obtain ⟨hp, g, d, tk, os⟩ := s; obtain ⟨X, hl, h⟩ := h
    unfold PySem.W.instObj at hl
    have L : PySem.W.Looks (model prog w) hp (isSubtype (.ref C) (.type "tuple")) false := PySem.W.looks_subIn X hm
    wp_walk using wpAny_loadPart' hl, wpAny_sub' L
    exact ⟨_, rfl, h⟩
theorem list_eq_ins (l x C dx : Addr) (hm : PySem.W.mroIn K C (.type "list") = some false) :
    Meets (Builtin.«list.__eq__» ⟨[.ref l, .ref x], []⟩) (fun _ R s => K.In s.heap ∧ s.heap.get? x = some (PySem.W.instObj C dx) ∧ R (.ok (.ret .notImplemented)) s) :=
  .of_wp fun prog w A R s h => by
    obtain ⟨hp, g, d, tk, os⟩ := s; obtain ⟨X, hl, h⟩ := h
    unfold PySem.W.instObj at hl
    have L : PySem.W.Looks (model prog w) hp (isSubtype (.ref C) (.type "list")) false := PySem.W.looks_subIn X hm
    wp_walk using wpAny_loadPart' hl, wpAny_sub' L
    exact ⟨_, rfl, h⟩
theorem int_eq_ins (i : Int) (t : Tok) (x C dx : Addr) : Meets (Builtin.«int.__eq__» ⟨[.int i t, .ref x], []⟩) (fun _ R s => s.heap.get? x = some (PySem.W.instObj C dx) ∧ R (.ok (.ret .notImplemented)) s) :=
  .of_wp fun prog w A R s h => by
    obtain ⟨hp, g, d, tk, os⟩ := s; obtain ⟨hl, h⟩ := h
    unfold PySem.W.instObj at hl
    wp_walk using wpAny_loadPart' hl
    exact ⟨_, rfl, h⟩
/-- u in a builtin's loop against an instance -/
theorem eqBool_ins {u : Value} {Q : Bool → Shared → Prop} (hne : (u == Value.ref x) = false) (h : wpAny (model prog w) A (richCompare .Eq u (.ref x)) (fun v s' => ∃ r, v = .bool r ∧ Q r s') E s) : wpAny (model prog w) A (eqBool u (.ref x)) Q E s := by
  unfold eqBool
  refine wpAny_holding ?_
  refine wpAny_ite_split (fun hab => by rw [hne] at hab; cases hab) (fun _ => ?_)
  cases u <;> (
    refine wpAny_bind (wpAny_mono h (fun v s' hv => ?_) fun _ _ x => x)
    obtain ⟨r, rfl, q⟩ := hv
    exact wpAny_truthy_bool q)
theorem tuple_inG {R : Result → Shared → Prop} (l : Addr) (items : Array Value) (n : Nat) (dd : Option Addr) (sl : Array (Option Value)) (y : Value) (I : Shared → Prop)
    (turn : ∀ z, z ∈ items → ∀ s, I s → wpAny (model prog w) A.in1 (eqBool z y) (fun r s' => r = false ∧ I s') (fun e s' => R (.error e) s') s)
    (fin : ∀ s, I s → R (.ok (.ret (.bool false))) s) (hl : s.heap.get? l = some { cls := .type "tuple", dict := dd, data := .seq items n, slots := sl }) (h : I s) :
    wpAny (model prog w) A.in1 (Builtin.«tuple.__contains__» ⟨[.ref l, y], []⟩) (GQ.FinOf prog w A R) (fun e s' => R (.error e) s') s := by
  obtain ⟨hp, g, d, tk, os⟩ := s
  wp_walk using wpAny_loadPart' hl, wpAny_forIn_array _ (fun rest b s' => b.1 = none ∧ I s' ∧ (∀ z, z ∈ rest → z ∈ items)) _

  case turn =>
    rintro z rest b s' ⟨hb, hI, hmem⟩
    refine wpAny_bind (wpAny_mono (turn z (hmem z (List.mem_cons_self ..)) s' hI) (fun r s2 q => ?_) fun _ _ x => x)
    obtain ⟨rfl, q2⟩ := q
    wp_walk
    exact ⟨rfl, q2, fun z hz => hmem z (List.mem_cons_of_mem _ hz)⟩
  case fin =>
    rintro ⟨b1, b2⟩ s' ⟨hb, hI, hmem⟩
    simp only at hb
    subst hb
    have hR := fin s' hI
    wp_walk
    exact hR
  case h =>
    exact ⟨rfl, h, fun z hz => by simpa using hz⟩
theorem in_tupG {l : Addr} {items : Array Value} {y : Value} {Q : Value → Shared → Prop} (I : Shared → Prop) (hl : s.heap.IsTuple l items)
    (turn : ∀ z, z ∈ items → ∀ s, I s → wpAny (model prog w) A.in1 (eqBool z y) (fun r s' => r = false ∧ I s') E s) (fin : ∀ s, I s → Q (.bool false) s) (h : I s) :
    wpAny (model prog w) A (compareOp .In y (.ref l)) Q E s := by
  obtain ⟨⟨cls, dd, data, sl⟩, ho, hc, n, hd⟩ := id hl
  simp only at hc hd
  subst hc hd
  show wpAny _ A (do return .bool (← contains (.ref l) y)) Q E s
  refine wpAny_bind (wpAny_contains_slot ⟨_, ho, rfl⟩ F.slot_tuple_contains (wpAny_mono (GQ.call_here F.slot_tuple_contains ⟨_, ho, rfl⟩ F.entry_tuple_contains (F.args_tuple_contains_2 _ _)
    (tuple_inG (R := wants (fun v s' => ∃ b, v = .bool b ∧ Q (.bool b) s') E) l items n dd sl y I turn (fun s' q => ⟨_, rfl, fin s' q⟩) ho h)) (fun v s' hv => ?_) fun _ _ e => e))
  obtain ⟨b, rfl, hq⟩ := hv
  exact wpAny_truthy_bool (wpAny_pure hq)
end
/-- the class at C is no subclass of these -/
structure OwnN (K : PySem.W.Frag) (C : Addr) : Prop where
  no : PySem.W.mroIn K C (.type "NoneType") = some false
  st : PySem.W.mroIn K C (.type "str") = some false
  tu : PySem.W.mroIn K C (.type "tuple") = some false
  li : PySem.W.mroIn K C (.type "list") = some false
  it : PySem.W.mroIn K C (.type "int") = some false
theorem Vals.of_mem : ∀ {xs : List V} {us : List Value}, Vals xs us → ∀ {u : Value}, u ∈ us → ∃ x, x ∈ xs ∧ RelV x u
  | _, _, .nil, _, h => by cases h
  | _, _, .cons r t, u, h => by
    rcases List.mem_cons.mp h with e | h
    · subst e
      exact ⟨_, List.mem_cons_self, r⟩
    · obtain ⟨x, hx, k⟩ := Vals.of_mem t h
      exact ⟨x, List.mem_cons_of_mem _ hx, k⟩
section
variable {X : Cx} {CX : CXT} {pins : List (Addr × Obj)} {σ : L2.St} {H : Hp} {s : Shared} {C g : Addr} {n : Nat} {sp : Sp} {E : XK}
theorem ins_obj {a dx : Addr} {fs : List (Str × V)} (I : Inv X pins σ H s) (h : H a = some (.ins C dx fs)) : ∃ od, PySem.W.InstAt s.heap a (PySem.W.instObj C dx) C od := by
  obtain ⟨mA, J, _⟩ := ins_get I.hok h
  obtain ⟨od, J, _⟩ := J.look
  exact ⟨_, J⟩
/-- kinds of values that an instance is compared with from the left -/
def OthV (K : PySem.W.Frag) (H : Hp) (z : V) : Prop := z = .non ∨ (∃ i, z = .str i) ∨ (∃ i, z = .int i) ∨ ∃ p ys, z = .ref p ∧ SqT K H p ys
def falseO (sp : Sp) (E : XK) (a : Addr) (z : V) (H : Hp) : Prop := sp [.ref a, z] H (fun v H' => v = .bl false ∧ H' = H) E
theorem rc_oth {A : Around} {a dx : Addr} {fs : List (Str × V)} {z : V} {u : Value} (O : OwnQ X.K C g) (N : OwnN X.K C) (FG : FnR X.prog X.w X.K X.mg X.base CX n g sp) (hr : Room n A) (e0 : Env0 X.prog X.w X.K X.mg X.base A X.stack s H) (hx : Passes CX X E)
    (I : Inv X pins σ H s) (ha : H a = some (.ins C dx fs)) (rz : RelV z u) (oz : OthV X.K H z) (q : falseO sp E a z H) :
    wpAny (model X.prog X.w) A (eqBool u (.ref a)) (fun r s' => r = false ∧ Inv X pins σ H s') X.xe s := by
  obtain ⟨od, J⟩ := ins_obj I ha
  have run : wpAny (model X.prog X.w) A (call (.ref g) [.ref a, u]) (PySem.W.CmpBack (fun v s' => ∃ r, v = .bool r ∧ r = false ∧ Inv X pins σ H s')) X.xe s := by
    refine wpAny_mono (wpAny_call (SlX.run_at (us := [.ref a, u]) (ws := [.ref a, z]) FG hr e0 hx I (.cons rfl (.cons rz .nil)) q)) (fun w s' y => ?_) fun _ _ x => x
    obtain ⟨z', H', I', ry, e1, e2⟩ := y
    subst e1
    subst e2
    cases (show w = Value.bool false from ry)
    exact ⟨false, rfl, rfl, I'⟩
  rcases oz with rfl | ⟨i, rfl⟩ | ⟨i, rfl⟩ | ⟨p, ys, rfl, hp⟩
  · cases (show u = Value.none from rz)
    exact eqBool_ins rfl (rc_eqR hr.units0 I.kIn J O (show s.TypeIs .none "NoneType" from rfl) F.slot_NoneType_eq N.no (call_gives F.slot_NoneType_eq rfl F.entry_NoneType_eq (F.args_NoneType_eq_2 _ _) (NoneType___eq___none_ref_0 a) ⟨rfl, rfl⟩) run)
  · obtain ⟨t, rfl⟩ := (show ∃ t, u = Value.str i t from rz)
    exact eqBool_ins rfl (rc_eqR hr.units0 I.kIn J O (show s.TypeIs (.str i t) "str" from rfl) F.slot_str_eq N.st (call_meets F.slot_str_eq rfl F.entry_str_eq (F.args_str_eq_2 _ _) (str_eq_ins i t a C dx) ⟨J.at_, rfl, rfl⟩) run)
  · obtain ⟨t, rfl⟩ := (show ∃ t, u = Value.int i t from rz)
    exact eqBool_ins rfl (rc_eqR hr.units0 I.kIn J O (show s.TypeIs (.int i t) "int" from rfl) F.slot_int_eq N.it (call_meets F.slot_int_eq rfl F.entry_int_eq (F.args_int_eq_2 _ _) (int_eq_ins i t a C dx) ⟨J.at_, rfl, rfl⟩) run)
  · cases (show u = Value.ref p from rz)
    obtain ⟨its, rv, ⟨o, ho, hc, _⟩, _⟩ := I.tuple hp
    have hne : (Value.ref p == Value.ref a) = false := by
      have : p ≠ a := by
        rintro rfl
        have e := J.at_
        rw [ho] at e
        cases e
        cases hc
      simp [this]
    exact eqBool_ins hne (rc_eqR hr.units0 I.kIn J O (show s.TypeIs (.ref p) "tuple" from ⟨_, ho, hc⟩) F.slot_tuple_eq N.tu (call_meets F.slot_tuple_eq ⟨_, ho, hc⟩ F.entry_tuple_eq (F.args_tuple_eq_2 _ _) (tuple_eq_ins p a C dx N.tu) ⟨I.kIn, J.at_, rfl, rfl⟩) run)
/-- x in a tuple of other things -/
def rInO (K : PySem.W.Frag) (C : Addr) (sp : Sp) (E : XK) : R2 := fun x y H Q => ∃ a dx fs t xs, x = .ref a ∧ H a = some (.ins C dx fs) ∧ y = .ref t ∧ SqT K H t xs ∧ (∀ z ∈ xs, OthV K H z ∧ falseO sp E a z H) ∧ Q (.bl false) H
theorem op_inO (O : OwnQ X.K C g) (N : OwnN X.K C) (F : FnR X.prog X.w X.K X.mg X.base CX n g sp) (hr : Room (n + 2) X.A) (hx : Passes CX X E) : OpR X (compareOp .In) (rInO X.K C sp E) := by
  intro pins s σ H x y v u Q I rx ry h
  obtain ⟨a, dx, fs, t, xs, rfl, ha, rfl, ht, hz, q⟩ := h
  cases (show v = Value.ref a from rx)
  cases (show u = Value.ref t from ry)
  obtain ⟨its, rv, e, _⟩ := I.tuple ht
  have hr1 : Room n X.A.in1 := Room.in1 (hr.mono (by omega))
  refine in_tupG (fun s' => Inv X pins σ H s') e (fun z hm s' I' => ?_) (fun s' I' => ⟨.bl false, H, I', rfl, q⟩) I
  obtain ⟨zz, hzz, rz⟩ := Vals.of_mem rv (by simpa using hm)
  exact rc_oth O N F hr1 I'.env0.in1 hx I' ha rz (hz zz hzz).1 (hz zz hzz).2
end
end Rs
/-! What a class with its own __eq__ is to isinstance; any value in a tuple of texts. -/
namespace Rs
open PySem PySem.Spec PyProof.Rows L2
theorem fnR {P : Program} {w : World} {K : PySem.W.Frag} {mg : Str → Option Value} {base : Heap} {CX : CXT} {k : Nat} {f : Addr} {fd : FuncData} {ps : List Str} {sp : Sp} (F : FnOk P w K mg base CX k f fd ps sp) (hb : Binds K fd ps []) : FnR P w K mg base CX k f sp :=
  (F.raw hb .nil).imp fun vs H Q E h => by
    show sp (vs ++ []) H Q E
    rw [List.append_nil]
    exact h
structure OwnI (K : PySem.W.Frag) (C : Addr) : Prop where
  cl : (PySem.W.clsIn K C).isSome = true
  tp : PySem.W.typeIn K (.ref C) = some (.type "type")
  ca : PySem.W.findIn K (.ref C) "__class__" = some (some (.builtin "object.__class__"))
  sp : PySem.W.specialIn K (.builtin "object.__class__") "__get__" = some (some (.builtin "getset_descriptor.__get__"))
  tk : PySem.W.takesIn K (.builtin "object.__class__") = some true
  mo : PySem.W.mroIn K C (.type "object") = some true
theorem OwnI.ty {K : PySem.W.Frag} {C a dx : Addr} {fs : List (Str × V)} {H : Hp} (h : OwnI K C) (c : Cls K C) (e : H a = some (.ins C dx fs)) : TyX K H (.ref a) (.ref C) := .base (.ins e c h.ca h.sp h.tk h.mo)
theorem kit_self {K : PySem.W.Frag} {C : Addr} : PySem.W.kitOne K (.ref C) (.ref C) = some true := by simp [PySem.W.kitOne]
theorem OwnI.no {K : PySem.W.Frag} {C : Addr} {T : String} {ns : List String} (h : OwnI K C) (e : fastBuiltinMro T = some (ns.map Value.type)) : PySem.W.kitOne K (.type T) (.ref C) = some false := by
  have h1 : PySem.W.subIn K (.type T) (.ref C) = some false := by
    show (fastBuiltinMro T).map (·.contains (.ref C)) = some false
    rw [e]
    simp
  unfold PySem.W.kitOne PySem.W.kitCls
  simp [h.cl, h.tp, h1]
/-- the built-in kinds that stand beside own instances -/
inductive BT : String → Prop
  | non : BT "NoneType"
  | bl : BT "bool"
  | int : BT "int"
  | str : BT "str"
  | lst : BT "list"
  | tup : BT "tuple"
theorem BT.nf {K : PySem.W.Frag} {C : Addr} {T : String} (h : BT T) : PySem.W.notFirst K C (.type T) = true := by
  cases h
  · exact nf_none
  · exact nf_bool
  · exact nf_int
  · exact nf_str
  · exact nf_list
  · exact nf_tuple
theorem OwnI.bt {K : PySem.W.Frag} {C : Addr} {T : String} (h : OwnI K C) (b : BT T) : PySem.W.kitOne K (.type T) (.ref C) = some false := by
  cases b
  · exact h.no (ns := ["NoneType", "object"]) (by decide +kernel)
  · exact h.no (ns := ["bool", "int", "object"]) (by decide +kernel)
  · exact h.no (ns := ["int", "object"]) (by decide +kernel)
  · exact h.no (ns := ["str", "object"]) (by decide +kernel)
  · exact h.no (ns := ["list", "object"]) (by decide +kernel)
  · exact h.no (ns := ["tuple", "object"]) (by decide +kernel)
theorem Sh.bt {K : PySem.W.Frag} {b : Addr} {H : Hp} {v : V} (h : Sh b H v) : ∃ T, TyX K H v (.type T) ∧ BT T := by
  cases v with
  | non => exact ⟨_, .base .non, .non⟩
  | bl x => exact ⟨_, .base (.bl x), .bl⟩
  | int x => exact ⟨_, .base (.int x), .int⟩
  | str x => exact ⟨_, .base (.str x), .str⟩
  | ref a =>
    obtain ⟨ne, ⟨xs, e⟩ | ⟨xs, e⟩⟩ := h
    · exact ⟨_, .base (.lst e), .lst⟩
    · exact ⟨_, .base (.tup e), .tup⟩
  | byt _ => exact h.elim
  | flt _ => exact h.elim
  | ty _ => exact h.elim
/-- whether a value is one of some texts -/
def isOne (ys : List Str) : V → Bool
  | .str x => ys.any (· == x)
  | _ => false
def eqText (v : V) : Value → Bool
  | .str c _ => (match v with
    | .str x => c == x
    | _ => false)
  | _ => false
theorem any_text {v : V} : ∀ {ys : List Str} {us : List Value}, Vals (ys.map V.str) us → us.any (eqText v) = isOne ys v
  | [], _, .nil => by cases v <;> rfl
  | y :: ys, _, .cons r t => by
    obtain ⟨k, rfl⟩ := r
    have ih := any_text (v := v) t
    rw [List.any_cons, ih]
    cases v <;> simp [eqText, isOne]
section
variable {X : Cx} {pins : List (Addr × Obj)} {σ : L2.St} {H : Hp} {s : Shared}
theorem text_eqAt {A : Around} {b : Addr} {v : V} {u : Value} (hu : A.units < cLine) (I : Inv X pins σ H s) (h : Sh b H v) (rv : RelV v u) (y : Str) (t : Tok) : SeqAt.EqAt A s (.str y t) u (eqText v (.str y t)) := by
  cases v with
  | non => cases (show u = Value.none from rv); exact SeqAt.EqAt.str_none y t
  | bl x => cases (show u = Value.bool x from rv); exact SeqAt.EqAt.str_bool y t x
  | int i => obtain ⟨k, rfl⟩ := (show ∃ k, u = Value.int i k from rv); exact SeqAt.EqAt.str_int y t i k
  | str x => obtain ⟨k, rfl⟩ := (show ∃ k, u = Value.str x k from rv); exact SeqAt.EqAt.str_str y t x k
  | ref a =>
    cases (show u = Value.ref a from rv)
    obtain ⟨ne, ⟨xs, e⟩ | ⟨xs, e⟩⟩ := h
    · obtain ⟨its, r, pl, _⟩ := I.list (SqL.of e)
      exact SeqAt.EqAt.str_list y t pl.isList hu
    · obtain ⟨its, r, pl, _⟩ := I.tuple (SqT.of e)
      exact SeqAt.EqAt.str_tuple y t pl hu
  | byt _ => exact h.elim
  | flt _ => exact h.elim
  | ty _ => exact h.elim
/-- x (not) in a tuple of texts -/
def rInSh (K : PySem.W.Frag) (neg : Bool) : R2 := fun x y H Q => ∃ b p ys, y = .ref p ∧ SqT K H p (ys.map V.str) ∧ Sh b H x ∧ Q (.bl (if neg then !isOne ys x else isOne ys x)) H
theorem mem_text {b : Addr} {A : Around} {v : V} {u : Value} (hu : A.units < cLine) (I : Inv X pins σ H s) (h : Sh b H v) (rv : RelV v u) : ∀ {ys : List Str} {us : List Value}, Vals (ys.map V.str) us → ∀ z ∈ us, SeqAt.EqAt A s z u (eqText v z)
  | [], _, .nil, _, hz => by cases hz
  | y :: ys, _, .cons r t, z, hz => by
    obtain ⟨k, rfl⟩ := r
    rcases List.mem_cons.mp hz with e | hz
    · subst e
      exact text_eqAt hu I h rv y k
    · exact mem_text hu I h rv t z hz
theorem op_inSh (hu : X.A.units + 64 < cLine) : OpR X (compareOp .In) (rInSh X.K false) := by
  intro pins s σ H x y v u Q I rx ry h
  obtain ⟨b, p, ys, rfl, hq, hs, q⟩ := h
  cases ry
  obtain ⟨its, rv, pl, _⟩ := I.tuple hq
  have hu1 : X.A.in1.units < cLine := by show X.A.units + 1 < cLine; omega
  refine SeqAt.in_tupleAt (eqText x) pl (fun z hz => mem_text hu1 I hs rx rv z (by simpa using hz)) ⟨.bl _, H, I, rfl, ?_⟩
  rw [show its.toArray.any (eqText x) = its.any (eqText x) by simp, any_text rv]
  exact q
theorem op_notInSh (hu : X.A.units + 64 < cLine) : OpR X (compareOp .NotIn) (rInSh X.K true) := by
  intro pins s σ H x y v u Q I rx ry h
  obtain ⟨b, p, ys, rfl, hq, hs, q⟩ := h
  cases ry
  obtain ⟨its, rv, pl, _⟩ := I.tuple hq
  have hu1 : X.A.in1.units < cLine := by show X.A.units + 1 < cLine; omega
  refine SeqAt.notIn_tupleAt (eqText x) pl (fun z hz => mem_text hu1 I hs rx rv z (by simpa using hz)) ⟨.bl _, H, I, rfl, ?_⟩
  rw [show its.toArray.any (eqText x) = its.any (eqText x) by simp, any_text rv]
  exact q
end
end Rs
/-! Dicts of ints as sets; comprehensions over anything walked; a bool > an int; values by two levels of shape. -/
namespace Rs
open PySem PySem.Spec PyProof.Rows L2
/-! ### a bool > an int -/
section
variable {prog : Program} {w : World} {A : Around} {E : Value → Shared → Prop} {s : Shared}
theorem gives_gt_bool (c : Bool) (j : Int) (u : Tok) : Gives (Builtin.«int.__gt__» ⟨[.bool c, .int j u], []⟩) (.val (Value.bool (decide (j < (if c = true then (1 : Int) else 0))))) :=
  .of_wp fun M A E s Q h => by
    obtain ⟨hp, g, d, tk, os⟩ := s
    wp_walk
    exact ⟨_, rfl, h⟩
theorem gt_bool_int {c : Bool} {j : Int} {u : Tok} {Q : Value → Shared → Prop} (h : Q (.bool (decide (j < (if c = true then (1 : Int) else 0)))) s) : wpAny (model prog w) A (compareOp .Gt (.bool c) (.int j u)) Q E s := by
  show wpAny _ _ (richCompare .Gt (.bool c) (.int j u)) Q E s
  exact wpAny_richCompare_left (op := .Gt) (Ta := "bool") (Tb := "int") rfl (typeIs_int s j u) (by decide) F.sub_int_bool F.slot_bool_gt
    (call_gives F.slot_bool_gt rfl F.entry_int_gt (F.args_int_gt_2 _ _) (gives_gt_bool c j u) ⟨nofun, h⟩)
end
/-- an int or a bool > an int -/
def gtI (v : V) (j : Int) : Bool := match v with
  | .int i => decide (j < i)
  | .bl c => decide (j < (if c = true then (1 : Int) else 0))
  | _ => false
def rGtI : R2 := fun x y H Q => ∃ j, y = .int j ∧ ((∃ i, x = .int i) ∨ ∃ c, x = .bl c) ∧ Q (.bl (gtI x j)) H
theorem op_gtI {X : Cx} : OpR X (compareOp .Gt) rGtI := by
  intro pins s σ H x y v u Q I rx ry h
  obtain ⟨j, rfl, ⟨i, rfl⟩ | ⟨c, rfl⟩, q⟩ := h
  · exact op_gt pins s σ H _ _ v u Q I rx ry ⟨i, j, rfl, rfl, q⟩
  · obtain ⟨t, rfl⟩ := ry
    cases (show v = Value.bool c from rx)
    exact gt_bool_int ⟨.bl _, H, I, rfl, q⟩
/-! ### y in a dict -/
def rInDict : R2 := fun y x H Q => ∃ a o, x = .ref a ∧ DGet H a y o ∧ Q (.bl o.isSome) H
theorem op_inDict {X : Cx} (hu : X.A.units + 1 < cLine) : OpR X (compareOp .In) rInDict := by
  intro pins s σ H y x v u Q I ry rx h
  obtain ⟨a, o, rfl, g, q⟩ := h
  cases (show u = Value.ref a from rx)
  exact d_in hu I g ry fun s3 I3 => ⟨.bl o.isSome, H, I3, rfl, q⟩
/-- the int keys of a dict are just these -/
def KeysI (kvs : List (Key × V)) (ns : List Int) : Prop := (∀ i : Int, (valV kvs (.inl i)).isSome = decide (i ∈ ns)) ∧ kvs.length ≤ ns.length
theorem KeysI.nil : KeysI [] [] := ⟨fun i => by simp [valV], Nat.le_refl _⟩
theorem KeysI.snoc {kvs : List (Key × V)} {ns : List Int} (h : KeysI kvs ns) (i : Int) (v : V) : KeysI (putK kvs (.inl i) v) (ns ++ [i]) := by
  refine ⟨fun j => ?_, ?_⟩
  · rw [valV_put]
    by_cases e : j = i
    · subst e
      simp
    · have e' : ¬ ((Sum.inl j : Key) = .inl i) := fun q => e (Sum.inl.inj q)
      rw [if_neg e', h.1 j]
      simp [e]
  · have l1 := length_putK kvs (Sum.inl i : Key) v
    have l2 := h.2
    rw [List.length_append]
    show _ ≤ ns.length + 1
    omega
theorem KeysI.get {kvs : List (Key × V)} {ns : List Int} (h : KeysI kvs ns) {H : Hp} {a : Addr} (e : H a = some (.dK kvs)) (i : Int) : ∃ o, DGet H a (.int i) o ∧ o.isSome = decide (i ∈ ns) :=
  ⟨_, DGet.k (k := (.inl i : Key)) e, h.1 i⟩
/-- a dict of ints stands at D -/
def SetI (H : Hp) (D : Addr) (ns : List Int) : Prop := ∃ kvs, H D = some (.dK kvs) ∧ KeysI kvs ns
theorem SetI.get {H : Hp} {D : Addr} {ns : List Int} (h : SetI H D ns) (i : Int) : ∃ o, DGet H D (.int i) o ∧ o.isSome = decide (i ∈ ns) := by
  obtain ⟨kvs, e, k⟩ := h
  exact k.get e i
theorem SetI.same {H H' : Hp} {D : Addr} {ns : List Int} (h : SetI H D ns) (s : Same H H') : SetI H' D ns := by
  obtain ⟨kvs, e, k⟩ := h
  exact ⟨kvs, s _ _ e, k⟩
/-- a dict comprehension over anything walked -/
theorem dc_it {J : It} {n : Nat} {G : Hp → Prop} {Y : Nat → Hp → V → Hp → Prop} (wk : Walk J n G Y) {g : TG} {tt : TT} {tk tv : TE} {vs : List Nat} {σ : L2.St} {H0 : Hp} {D : Addr} {Qe : Hp → Prop} (R : Nat → Hp → Prop) (start : R 0 (upd H0 D (.dK [])))
    (stay : ∀ j H, j ≤ n → R j H → G H)
    (turn : ∀ j x H H', j < n → R j H → Y j H x H' → g x (wipe σ vs) H' fun σ1 H1 => wipe σ1 vs = wipe σ vs ∧ tt σ1 H1 fun c H2 =>
      if c = true then tk σ1 H2 fun y H3 => tv σ1 H3 fun z H4 => ∃ ks k, y = kV k ∧ H4 D = some (.dK ks) ∧ ks.length < sizeLine ∧ R (j + 1) (upd H4 D (.dK (putK ks k z))) else R (j + 1) H2)
    (fin : ∀ H, R n H → Qe H) :
    ∃ W : Nat → Nat → Hp → Prop, (∃ m, W 0 m (upd H0 D (.dK []))) ∧ ∀ j m H, W j m H → (J.stop j H ∧ Qe H) ∨
      (J.go j H ∧ ∃ N : Hp → Prop, (∀ H', N H' → ∃ m', m' < m ∧ W (j + 1) m' H') ∧ ∀ x H', J.yld j H x H' → g x (wipe σ vs) H' fun σ1 H1 => wipe σ1 vs = wipe σ vs ∧ tt σ1 H1 fun c H2 =>
        if c = true then tk σ1 H2 fun y H3 => tv σ1 H3 fun z H4 => ∃ ks k, y = kV k ∧ H4 D = some (.dK ks) ∧ ks.length < sizeLine ∧ N (upd H4 D (.dK (putK ks k z))) else N H2) := by
  refine ⟨fun j m H => m + j = n ∧ R j H, ⟨n, rfl, start⟩, fun j m H hw => ?_⟩
  obtain ⟨em, hR⟩ := hw
  have gH := stay j H (by omega) hR
  cases m with
  | zero =>
    obtain rfl : j = n := by omega
    exact .inl ⟨wk.stops H gH, fin H hR⟩
  | succ m =>
    have lt : j < n := by omega
    refine .inr ⟨wk.goes j H lt gH, R (j + 1), fun H' hN => ⟨m, Nat.lt_succ_self m, by omega, hN⟩, fun x H' hy => ?_⟩
    exact turn j x H H' lt hR (wk.yields j H x H' lt gH hy)
/-! ### more of what stays -/
theorem But.free {b p : Addr} {H H' : Hp} (k : But b H H') (ne : p ≠ b) (h : H' p = none) : H p = none := by
  cases e : H p with
  | none => rfl
  | some o =>
    have := k p o ne e
    rw [h] at this
    cases this
/-- values told by their own shape and that of their things -/
def Tw (b : Addr) (H : Hp) : V → Prop
  | .ref a => a ≠ b ∧ ∃ xs, (H a = some (.lst xs) ∨ H a = some (.tup xs)) ∧ xs.length ≤ 100 ∧ ∀ x ∈ xs, Sh b H x
  | v => Sh b H v
theorem Tw.sh {b : Addr} {H : Hp} {v : V} (h : Tw b H v) : Sh b H v := by
  cases v with
  | ref a =>
    obtain ⟨n, xs, e | e, _⟩ := h
    · exact ⟨n, .inl ⟨xs, e⟩⟩
    · exact ⟨n, .inr ⟨xs, e⟩⟩
  | _ => exact h
theorem Tw.but {b : Addr} {H H' : Hp} {v : V} (h : Tw b H v) (k : But b H H') : Tw b H' v := by
  cases v with
  | ref a =>
    obtain ⟨n, xs, e, l, q⟩ := h
    exact ⟨n, xs, e.imp (k _ _ n) (k _ _ n), l, fun x hx => (q x hx).but k⟩
  | _ => exact h
theorem Tw.set {b t : Addr} {H : Hp} {v : V} {xs ys : List V} (h : Tw b H v) (e : H t = some (.lst xs)) (ne : v ≠ .ref t) : Tw b (upd H t (.lst ys)) v := by
  cases v with
  | ref a =>
    obtain ⟨n, zs, f, l, q⟩ := h
    have na : a ≠ t := fun z => ne (by rw [z])
    exact ⟨n, zs, by rw [upd_ne na]; exact f, l, fun x hx => (q x hx).set e⟩
  | _ => exact h
/-- a value that is no older object -/
def NewV (H : Hp) (v : V) : Prop := ∀ a, v = .ref a → H a = none
theorem NewV.ne {H : Hp} {v : V} {t : Addr} {o : HO} (h : NewV H v) (e : H t = some o) : v ≠ .ref t := fun z => by
  have := h t z
  rw [e] at this
  cases this
theorem NewV.but {b : Addr} {H H' : Hp} {v : V} (h : NewV H' v) (k : But b H H') (s : Sh b H' v) : NewV H v := fun a e => by
  subst e
  exact k.free s.1 (h a rfl)
/-! ### the things of a list or a tuple -/
def seqV (H : Hp) : V → Option (List V)
  | .ref a => match H a with
    | some (.lst xs) => some xs
    | some (.tup xs) => some xs
    | _ => none
  | _ => none
theorem seqV_lst {H : Hp} {a : Addr} {xs : List V} (h : H a = some (.lst xs)) : seqV H (.ref a) = some xs := by
  show (match H a with
    | some (.lst xs) => some xs
    | some (.tup xs) => some xs
    | _ => none) = _
  rw [h]
theorem seqV_tup {H : Hp} {a : Addr} {xs : List V} (h : H a = some (.tup xs)) : seqV H (.ref a) = some xs := by
  show (match H a with
    | some (.lst xs) => some xs
    | some (.tup xs) => some xs
    | _ => none) = _
  rw [h]
theorem seqV_tw {b : Addr} {H H' : Hp} {v : V} (h : Tw b H v) (k : But b H H') : seqV H' v = seqV H v := by
  cases v with
  | ref a =>
    obtain ⟨n, xs, e | e, _⟩ := h
    · rw [seqV_lst e, seqV_lst (k _ _ n e)]
    · rw [seqV_tup e, seqV_tup (k _ _ n e)]
  | _ => rfl
def inB (lo hi : Int) : V → Bool
  | .int i => decide (lo ≤ i) && decide (i < hi)
  | _ => false
/-- whether a value is a sequence of integers between -/
def btw (H : Hp) (lo hi : Int) (v : V) : Bool := match seqV H v with
  | some xs => xs.all (inB lo hi)
  | none => false
theorem btw_seq {H : Hp} {lo hi : Int} {v : V} {xs : List V} (h : seqV H v = some xs) : btw H lo hi v = xs.all (inB lo hi) := by
  unfold btw
  rw [h]
theorem btw_none {H : Hp} {lo hi : Int} {v : V} (h : seqV H v = none) : btw H lo hi v = false := by
  unfold btw
  rw [h]
theorem btw_tw {b : Addr} {H H' : Hp} {v : V} {lo hi : Int} (h : Tw b H v) (k : But b H H') : btw H' lo hi v = btw H lo hi v := by
  unfold btw
  rw [seqV_tw h k]
theorem all_inB {lo hi : Int} : ∀ {xs : List V}, xs.all (inB lo hi) = true → ∃ ns : List Int, xs = ns.map V.int ∧ ∀ n ∈ ns, lo ≤ n ∧ n < hi
  | [], _ => ⟨[], rfl, fun n h => nomatch h⟩
  | x :: xs, h => by
    rw [List.all_cons, Bool.and_eq_true] at h
    obtain ⟨ns, rfl, q⟩ := all_inB h.2
    cases x with
    | int i =>
      have h1 := h.1
      simp only [inB, Bool.and_eq_true, decide_eq_true_eq] at h1
      exact ⟨i :: ns, rfl, fun n hn => by
        rcases List.mem_cons.mp hn with e | e
        · subst e; exact h1
        · exact q n e⟩
    | _ => exact absurd h.1 (by simp [inB])
/-! ### n = {k: v for ..}, n a local name that no inner block keeps -/
theorem sw_dc {kx vx : Expr} {gs : List Comprehension} {sc : Scope} {p q : Pos} {n : Str} {ln : Nat} {ev : Env} (isf : ev.scope.kind = .function) (isl : ev.scope.names.lookup n = some .local) (same : (q.line == p.line) = true)
    (out : (sc.names.any fun (m, k) => m == n && (k == .local || k == .cell)) = false) : swapsWith (.DictComp kx vx gs sc p) (some (.Name n q)) ln ev = pure true := by
  have k1 : ev.kindOf n = some .local := isl
  have k2 : ev.blockKind = .function := by
    unfold Env.blockKind
    rw [isf]
    rfl
  unfold swapsWith
  simp only [k2, k1, out, Expr.pos, same]
  rfl
theorem ps_setDc {X : Cx} {i : Nat} {n : Str} {q : Pos} {kx vx tg it : Expr} {ifs : List Expr} {sc : Scope} {own : List (Str × Nat)} {p sp : Pos} {wi : TI} {g : TG} {tt : TT} {tk tv : TE} (calm : X.calm = true) (nd : X.N.Nodup) (hn : X.N[i]? = some n) (isl : X.env.scope.names.lookup n = some .local)
    (sw : swapsWith (.DictComp kx vx [⟨tg, it, ifs, 0⟩] sc p) (some (.Name n q)) sp.line X.env = pure true) (hi : PI X tg it wi) (ok : BlkOk X.N X.env.scope sc own)
    (r1 : ∀ (u : Shared) (H : Hp) (C : Addr) (cl : List (Str × Addr)) (fp : List Addr), PG (X.blk u H sc (compEnvC sc cl C X.env) fp) tg g) (r2 : ∀ (u : Shared) (H : Hp) (C : Addr) (cl : List (Str × Addr)) (fp : List Addr), PTs (X.blk u H sc (compEnvC sc cl C X.env) fp) ifs tt)
    (r3 : ∀ (u : Shared) (H : Hp) (C : Addr) (cl : List (Str × Addr)) (fp : List Addr), PE (X.blk u H sc (compEnvC sc cl C X.env) fp) kx tk) (r4 : ∀ (u : Shared) (H : Hp) (C : Addr) (cl : List (Str × Addr)) (fp : List Addr), PE (X.blk u H sc (compEnvC sc cl C X.env) fp) vx tv)
    (plain : ∀ x, foldedSetIterable it X.env x = pure x := by intro _; rfl) : PS X (.Assign [.Name n q] (.DictComp kx vx [⟨tg, it, ifs, 0⟩] sc p) sp) (tAsg (tDc wi g tt tk tv (own.map (·.2))) (gName i)) := by
  refine ⟨fun pins s σ H D I wish => ?_⟩
  have wish : tDc wi g tt tk tv (own.map (·.2)) σ H (fun x H1 => gName i x σ H1 D.nx) := wish
  rw [exec_Assign_Name_used _ _ _ _ sw]
  refine wpAny_bind (wpAny_standAt (wpAny_bind ?_))
  show wpAny _ X.A (do let _ ← comprehension (.DictComp kx vx [⟨tg, it, ifs, 0⟩] sc p) sc X.env (firstIterPos [⟨tg, it, ifs, 0⟩] p) newDict false (eval it X.env) (some (assign (.Name n q) X.env))) _ _ s
  refine wpAny_bind (thn (dc_core (Qf := fun _ s' => SP X pins D .next s') calm nd I hi ok r1 r2 r3 r4 plain wish fun L C s1 ns H1 I1 got hns fr => ?_) fun _ s1 z => wpAny_pure (wpAny_pure z))
  show wpAny _ _ (assign (.Name n q) X.env (.ref L)) _ _ _
  refine wpAny_assign_Name (store_ok2 (v := V.ref L) I1 nd hn (.inl isl) rfl (fun s2 I2 ⟨c, keep, way⟩ => ?_) (.inr isl))
  obtain ⟨e0, e1, e2, e3, e4, e5⟩ := fr
  have far : C ≠ c := by
    rcases way with z | z
    · rw [z]
      exact e1
    · exact fun e => e4 n c z e.symm
  refine ⟨ns, hns.sameBut keep far, fun h3 keep3 => ?_⟩
  exact ⟨_, H1, I2.turned (t' := s2.toks) (fun b o hb e => (keep3.2 b hb).trans e) e0 e1 e3 e4 e5, got⟩
/-- a list or a tuple, walked -/
def iSeqA (K : PySem.W.Frag) (tl : TE) : TI := fun σ H R => tl σ H fun v H1 => ∃ a, v = .ref a ∧ ((∃ xs, SqL K H1 a xs ∧ R (Itl K a) H1) ∨ (∃ xs, SqT K H1 a xs ∧ R (Itt K a) H1))
theorem pi_seqA {X : Cx} {tg l : Expr} {tl : TE} (hl : PE X l tl) : PI X tg l (iSeqA X.K tl) := by
  refine ⟨fun pins s σ H R I h => thn (hl.run pins s σ H _ I h) fun v u res => ?_⟩
  obtain ⟨x, G, J, rx, a, ex, way⟩ := res
  subst ex
  cases rx
  have new : ∀ c ∈ [u.heap.objs.size], FpOk X pins G c := fun c hc => by
    obtain rfl : c = u.heap.objs.size := by simpa using hc
    exact J.fpOk (Nat.le_refl _) (J.hok.fresh (Nat.le_refl _))
  rcases way with ⟨xs, hq, q⟩ | ⟨xs, hq, q⟩
  · obtain ⟨its, rv, p, _⟩ := J.list hq
    refine wpAny_pyIter_list p.isList ⟨u.heap.objs.size, [u.heap.objs.size], _, _, G, rfl, ?_, turn_list a _, ⟨_, Heap.get?_push_size _ rfl, rfl, rfl⟩, new, q⟩
    exact J.kept (t' := u.toks) fun c r z => Heap.get?_push_of_some _ z
  · obtain ⟨its, rv, p, _⟩ := J.tuple hq
    refine wpAny_pyIter_tuple (show u.heap.IsTuple a its.toArray from p) ⟨u.heap.objs.size, [u.heap.objs.size], _, _, G, rfl, ?_, turn_tuple a _, ⟨_, Heap.get?_push_size _ rfl, rfl, rfl⟩, new, q⟩
    exact J.kept (t' := u.toks) fun c r z => Heap.get?_push_of_some _ z
/-- a list or a tuple of ints -/
def SeqI (K : PySem.W.Frag) (H : Hp) (a : Addr) (ns : List Int) : Prop := SqL K H a (ns.map V.int) ∨ SqT K H a (ns.map V.int)
theorem SeqI.same {K : PySem.W.Frag} {H H' : Hp} {a : Addr} {ns : List Int} (h : SeqI K H a ns) (s : Same H H') : SeqI K H' a ns := h.imp (s.seq ·) (fun h => (Fz.of_same s).sqT h)
theorem take_int {ns : List Int} {i : Nat} {x : V} (h : (ns.map V.int)[i]? = some x) : ∃ n, x = .int n ∧ ns.take (i + 1) = ns.take i ++ [n] := by
  obtain ⟨n, hn, rfl⟩ := map_int_get h
  exact ⟨n, rfl, take_snoc hn⟩
/-- {n: True for n in a} -/
theorem dset {K : PySem.W.Frag} {a : Addr} {ns : List Int} {te : TE} {sl : Nat} {σ : L2.St} {H : Hp} {Q : VK} (hte : ∀ R : VK, R (.ref a) H → te σ H R) (hl : sl < σ.length) (hS : SeqI K H a ns) (hn : ns.length ≤ 1000)
    (k : ∀ D H', H D = none → Same H H' → SetI H' D ns → Q (.ref D) H') : tDc (iSeqA K te) (gName sl) tYes (tVar sl) (tC (.bl true)) [sl] σ H Q := by
  have turn : ∀ (D : Addr), H D = none → ∀ j x Hc H', j < (ns.map V.int).length → (SetI Hc D (ns.take j) ∧ Same H Hc) → YAt (ns.map V.int) j Hc x H' → gName sl x (wipe σ [sl]) H' fun σ1 H1 => wipe σ1 [sl] = wipe σ [sl] ∧ tYes σ1 H1 fun c H2 =>
      if c = true then tVar sl σ1 H2 fun y H3 => tC (.bl true) σ1 H3 fun z H4 => ∃ ks k, y = kV k ∧ H4 D = some (.dK ks) ∧ ks.length < sizeLine ∧ (SetI (upd H4 D (.dK (putK ks k z))) D (ns.take (j + 1)) ∧ Same H (upd H4 D (.dK (putK ks k z)))) else (SetI H2 D (ns.take (j + 1)) ∧ Same H H2) := by
    intro D hD j x Hc H' hj hR hy
    obtain ⟨rfl, hx⟩ := hy
    obtain ⟨n, rfl, tk⟩ := take_int hx
    obtain ⟨⟨kvs, hk, kk⟩, sc⟩ := hR
    refine ⟨by simp [wipe, List.set_set], ?_⟩
    dsimp only [tYes]
    rw [if_pos rfl]
    refine ⟨.int n, by simp [wipe, List.getElem?_set, hl], kvs, .inl n, rfl, hk, ?_, ?_, ?_⟩
    · have := kk.2
      rw [List.length_take] at this
      exact szl (by omega)
    · rw [tk]
      exact ⟨_, upd_same, kk.snoc n _⟩
    · exact same_lst sc hD
  refine hte _ ⟨a, rfl, ?_⟩
  rcases hS with hS | hS
  · refine .inl ⟨_, hS, fun D hD => dc_it walk_list (fun i Hc => SetI Hc D (ns.take i) ∧ Same H Hc) ⟨⟨[], upd_same, KeysI.nil⟩, same_new hD⟩ (fun i Hc _ hR => hR.2.seq hS) (turn D hD) (fun Hc hR => ?_)⟩
    rw [List.length_map, List.take_length] at hR
    exact k D Hc hD hR.2 hR.1
  · refine .inr ⟨_, hS, fun D hD => dc_it walk_tup (fun i Hc => SetI Hc D (ns.take i) ∧ Same H Hc) ⟨⟨[], upd_same, KeysI.nil⟩, same_new hD⟩ (fun i Hc _ hR => (Fz.of_same hR.2).sqT hS) (turn D hD) (fun Hc hR => ?_)⟩
    rw [List.length_map, List.take_length] at hR
    exact k D Hc hD hR.2 hR.1
theorem asg_go {te : TE} {g : V → L2.St → Hp → (L2.St → Hp → Prop) → Prop} {rest : TS} {D : Ends} {σ : L2.St} {H : Hp} (h : te σ H (fun x H1 => g x σ H1 (fun σ2 H2 => rest D σ2 H2))) : tSeq (tAsg te g) rest D σ H := h
/-- [e for n in a], the e of a bool each, nothing written -/
theorem lmap {K : PySem.W.Frag} {a : Addr} {ns : List Int} {te el : TE} {sl : Nat} {σ : L2.St} {H : Hp} {Q : VK} (f : Int → Bool) (hte : ∀ R : VK, R (.ref a) H → te σ H R) (hS : SeqI K H a ns) (hn : ns.length ≤ 1000)
    (helt : ∀ n Hc (R : VK), n ∈ ns → Same H Hc → R (.bl (f n)) Hc → el ((wipe σ [sl]).set sl (some (.int n))) Hc R)
    (k : ∀ D H', H D = none → Same H H' → H' D = some (.lst ((ns.map f).map V.bl)) → Q (.ref D) H') : tLc (iSeqA K te) (gName sl) tYes el [sl] σ H Q := by
  have turn : ∀ (D : Addr), H D = none → ∀ j x Hc H', j < (ns.map V.int).length → (Hc D = some (.lst (((ns.take j).map f).map V.bl)) ∧ Same H Hc) → YAt (ns.map V.int) j Hc x H' → gName sl x (wipe σ [sl]) H' fun σ1 H1 => wipe σ1 [sl] = wipe σ [sl] ∧ tYes σ1 H1 fun c H2 =>
      if c = true then el σ1 H2 fun y H3 => ∃ acc, H3 D = some (.lst acc) ∧ acc.length < sizeLine ∧ (upd H3 D (.lst (acc ++ [y])) D = some (.lst (((ns.take (j + 1)).map f).map V.bl)) ∧ Same H (upd H3 D (.lst (acc ++ [y])))) else (H2 D = some (.lst (((ns.take (j + 1)).map f).map V.bl)) ∧ Same H H2) := by
    intro D hD j x Hc H' hj hR hy
    obtain ⟨rfl, hx⟩ := hy
    obtain ⟨n, rfl, tk⟩ := take_int hx
    obtain ⟨hk, sc⟩ := hR
    refine ⟨by simp [wipe, List.set_set], ?_⟩
    dsimp only [tYes]
    rw [if_pos rfl]
    refine helt n _ _ (List.mem_of_mem_take (i := j + 1) (by rw [tk]; simp)) sc ⟨_, hk, ?_, ?_, ?_⟩
    · rw [List.length_map, List.length_map, List.length_take]
      exact szl (by omega)
    · rw [tk, upd_same, List.map_append, List.map_append]
      rfl
    · exact same_lst sc hD
  refine hte _ ⟨a, rfl, ?_⟩
  rcases hS with hS | hS
  · refine .inl ⟨_, hS, fun D hD => lc_it walk_list (fun i Hc => Hc D = some (.lst (((ns.take i).map f).map V.bl)) ∧ Same H Hc) ⟨upd_same, same_new hD⟩ (fun i Hc _ hR => hR.2.seq hS) (turn D hD) (fun Hc hR => ?_)⟩
    rw [List.length_map, List.take_length] at hR
    exact k D Hc hD hR.2 hR.1
  · refine .inr ⟨_, hS, fun D hD => lc_it walk_tup (fun i Hc => Hc D = some (.lst (((ns.take i).map f).map V.bl)) ∧ Same H Hc) ⟨upd_same, same_new hD⟩ (fun i Hc _ hR => (Fz.of_same hR.2).sqT hS) (turn D hD) (fun Hc hR => ?_)⟩
    rw [List.length_map, List.take_length] at hR
    exact k D Hc hD hR.2 hR.1
theorem b_go {r : List V → Hp → VK → Prop} {te : TE} {σ : L2.St} {H : Hp} {Q : Bool → Hp → Prop} (h : te σ H (fun x H1 => r [x] H1 (fun z H2 => ∃ c, z = .bl c ∧ Q c H2))) : tB (tCB r (tCons te tNil)) σ H Q := h
theorem all_id {ns : List Int} {f : Int → Bool} : (ns.map f).all id = ns.all f := by simp [List.all_map]
/-- a list == [] -/
def rEqNil (K : PySem.W.Frag) : R2 := fun x y H Q => ∃ l b xs, x = .ref l ∧ y = .ref b ∧ SqL K H l xs ∧ SqL K H b [] ∧ Q (.bl xs.isEmpty) H
theorem op_eqNil {X : Cx} (hu : X.A.units + 1 < cLine) : OpR X (compareOp .Eq) (rEqNil X.K) := by
  intro pins s σ H x y v u Q I rx ry h
  obtain ⟨l, b, xs, rfl, rfl, h1, h2, q⟩ := h
  cases (show v = Value.ref l from rx)
  cases (show u = Value.ref b from ry)
  obtain ⟨its, rv, p1, _⟩ := I.list h1
  obtain ⟨its2, rv2, p2, _⟩ := I.list h2
  cases rv2
  have hu0 : X.A.units < cLine := by omega
  show wpAny _ _ (richCompare .Eq (.ref l) (.ref b)) _ _ _
  cases rv with
  | nil => exact SeqAt.RcAt.lists (e := fun _ => true) p1.isList p2.isList rfl hu0 (fun j h1 h2 => absurd h1 (by simp)) _ _ _ _ ⟨.bl _, H, I, rfl, q⟩
  | cons r t => exact SeqAt.RcAt.lists_lengths p1.isList p2.isList (by simp) hu0 _ _ _ _ ⟨.bl _, H, I, rfl, q⟩
/-- [a draw for _ in range(a draw)] -/
theorem ldraw {b : Addr} {targ : TA} {el : TE} {sl : Nat} {σ : L2.St} {H : Hp} {Q : VK} {lo hi : Int} (harg : ∀ R : List V → Hp → Prop, (∀ m H1, 0 ≤ m → m ≤ 100 → Box H1 b → But b H H1 → R [.int m] H1) → targ σ H R)
    (helt : ∀ x Hc (R : VK), Box Hc b → (∀ n H1, lo ≤ n → n < hi → Box H1 b → But b Hc H1 → R (.int n) H1) → el ((wipe σ [sl]).set sl (some x)) Hc R)
    (k : ∀ D (ns : List Int) H', H D = none → D ≠ b → H' D = some (.lst (ns.map V.int)) → ns.length ≤ 100 → (∀ n ∈ ns, lo ≤ n ∧ n < hi) → Box H' b → But b H H' → Q (.ref D) H') : tLc (iRng1 targ) (gName sl) tYes el [sl] σ H Q := by
  refine harg _ fun m H1 m0 m1 B1 k1 => ⟨m, rfl, by omega, by omega, fun D hD => ?_⟩
  have neD : D ≠ b := B1.ne_none hD
  refine lc_range (fun i Hc => ∃ ns : List Int, Hc D = some (.lst (ns.map V.int)) ∧ ns.length = i ∧ (∀ n ∈ ns, lo ≤ n ∧ n < hi) ∧ Box Hc b ∧ But b H1 Hc) ⟨[], upd_same, rfl, (fun n h => nomatch h), B1.same (same_new hD), But.of_same (same_new hD)⟩ (fun i Hc hi hP => ?_) (fun Hc hP => ?_)
  · obtain ⟨ns, hDc, hl, hns, Bc, kc⟩ := hP
    refine ⟨by simp [wipe, List.set_set], ?_⟩
    dsimp only [tYes]
    rw [if_pos rfl]
    refine helt _ _ _ Bc fun n H2 n0 n1 B2 k2 => ⟨_, k2 _ _ neD hDc, ?_, ns ++ [n], ?_, ?_, ?_, box_ne B2 neD, but_new (kc.trans k2) hD⟩
    · rw [List.length_map]
      exact szl (by omega)
    · rw [upd_same, List.map_append]
      rfl
    · rw [List.length_append, hl]
      rfl
    · intro x hx
      rcases List.mem_append.mp hx with h | h
      · exact hns x h
      · rw [List.mem_singleton] at h
        subst h
        exact ⟨n0, n1⟩
  · obtain ⟨ns, hDc, hl, hns, Bc, kc⟩ := hP
    exact k D ns Hc (k1.free neD hD) neD hDc (by omega) hns Bc (k1.trans kc)
theorem if_go {tt : TT} {ta tb : TE} {σ : L2.St} {H : Hp} {Q : VK} (h : tt σ H fun c H1 => if c = true then ta σ H1 Q else tb σ H1 Q) : tIf tt ta tb σ H Q := h
theorem cb_go {r : List V → Hp → VK → Prop} {te : TE} {σ : L2.St} {H : Hp} {Q : VK} (h : te σ H (fun x H1 => r [x] H1 Q)) : tCB r (tCons te tNil) σ H Q := h
end Rs
/-! v in o, v not in o by an own __contains__; what is_whole says of anything. -/
namespace Rs
open PySem PySem.Spec PyProof.Rows L2
section
variable {X : Cx} {CX : CXT} {C g : Addr} {n : Nat} {sp : Sp} {E : XK}
def rInM (C : Addr) (neg : Bool) (sp : Sp) (E : XK) : R2 := fun v y H Q => ∃ a dx fs, y = .ref a ∧ H a = some (.ins C dx fs) ∧ sp [.ref a, v] H (fun z H' => ∃ r, z = .bl r ∧ Q (.bl (if neg then !r else r)) H') E
theorem op_inM (M : Meth X.K C "__contains__" g) (F : FnR X.prog X.w X.K X.mg X.base CX n g sp) (hr : Room n X.A) (hx : Passes CX X E) : OpR X (compareOp .In) (rInM C false sp E) := by
  intro pins s σ H x y v u Q I rx ry h
  obtain ⟨a, dx, fs, rfl, ha, q⟩ := h
  cases (show u = Value.ref a from ry)
  obtain ⟨ox, od, J⟩ := ins_at I ha
  obtain ⟨m, hF⟩ := I.fr
  refine PySem.W.in_K hF I.ok.mod.kin J M.at_ M.fn ?_
  refine wpAny_mono (wpAny_call (run_fnR (us := [.ref a, v]) (vs := [.ref a, x]) F hr hx I (.cons rfl (.cons rx .nil)) q)) (fun w s' z => ?_) fun _ _ x => x
  obtain ⟨z', H', I', rz, r, ez, qz⟩ := z
  subst ez
  cases (show w = Value.bool r from rz)
  exact wpAny_truthy_bool ⟨.bl r, H', I', rfl, qz⟩
theorem op_notInM (M : Meth X.K C "__contains__" g) (F : FnR X.prog X.w X.K X.mg X.base CX n g sp) (hr : Room n X.A) (hx : Passes CX X E) : OpR X (compareOp .NotIn) (rInM C true sp E) := by
  intro pins s σ H x y v u Q I rx ry h
  obtain ⟨a, dx, fs, rfl, ha, q⟩ := h
  cases (show u = Value.ref a from ry)
  obtain ⟨ox, od, J⟩ := ins_at I ha
  obtain ⟨m, hF⟩ := I.fr
  refine PySem.W.notIn_K hF I.ok.mod.kin J M.at_ M.fn ?_
  refine wpAny_mono (wpAny_call (run_fnR (us := [.ref a, v]) (vs := [.ref a, x]) F hr hx I (.cons rfl (.cons rx .nil)) q)) (fun w s' z => ?_) fun _ _ x => x
  obtain ⟨z', H', I', rz, r, ez, qz⟩ := z
  subst ez
  cases (show w = Value.bool r from rz)
  exact wpAny_truthy_bool ⟨.bl (!r), H', I', rfl, qz⟩
end
theorem inV_int {n : Int} {ns : List Int} : inV (.int n) (ns.map V.int) = decide (n ∈ ns) := by
  induction ns with
  | nil => rfl
  | cons m ns ih =>
    unfold inV at ih ⊢
    rw [List.map_cons, List.any_cons, ih]
    show ((m == n) || decide (n ∈ ns)) = decide (n ∈ m :: ns)
    by_cases h : m = n
    · subst h
      simp
    · have h' : ¬ n = m := fun e => h e.symm
      simp [h, h']
theorem flat_ints {ns : List Int} : (ns.map V.int).all flatV = true := by
  induction ns with
  | nil => rfl
  | cons m ns ih =>
    rw [List.map_cons, List.all_cons, ih]
    rfl
/-- what is_whole says of a value: the integer that it is, if it is one -/
def IsV (K : PySem.W.Frag) (H : Hp) (v : V) (o : Option Int) : Prop := ∃ t r, TyX K H v t ∧ PySem.W.kitOne K t (.type "int") = some r ∧ (r = false → o = none) ∧
  (r = true → ∃ c, PySem.W.kitOne K t (.type "bool") = some c ∧ (c = true → o = none) ∧ (c = false → ∃ i, v = .int i ∧ o = some i))
def wholeV : V → Option Int
  | .int i => some i
  | _ => none
theorem Sh.isV {K : PySem.W.Frag} {b : Addr} {H : Hp} {v : V} (h : Sh b H v) : IsV K H v (wholeV v) := by
  obtain ⟨t, ty, ki, kb⟩ := h.ty (K := K)
  refine ⟨_, _, ty, kit_ty ki, fun e => ?_, fun e => ⟨_, kit_ty kb, fun e2 => ?_, fun e2 => ?_⟩⟩
  · cases v <;> first | rfl | exact absurd e (by simp [isInt])
  · cases v <;> first | rfl | exact absurd e2 (by simp [isBl])
  · cases v with
    | int i => exact ⟨i, rfl, rfl⟩
    | bl c => exact absurd e2 (by simp [isBl])
    | _ => exact absurd e (by simp [isInt, isBl])
theorem kit_own_int {K : PySem.W.Frag} {C : Addr} (N : OwnN K C) : PySem.W.kitOne K (.ref C) (.type "int") = some false := by
  have hm : PySem.W.kitMeta "int" = true := by decide +kernel
  have hs : PySem.W.subIn K (.ref C) (.type "int") = some false := N.it
  unfold PySem.W.kitOne PySem.W.kitCls
  simp [hm, hs]
theorem isV_own {K : PySem.W.Frag} {C x dx : Addr} {fs : List (Str × V)} {H : Hp} (I : OwnI K C) (c : Cls K C) (N : OwnN K C) (h : H x = some (.ins C dx fs)) : IsV K H (.ref x) none :=
  ⟨_, false, I.ty c h, kit_own_int N, fun _ => rfl, fun e => nomatch e⟩
end Rs
/-! ~o, o & p and the like by own methods; what stays of written and unwritten lists when one instance changes. -/
namespace Rs
open PySem PySem.Spec PyProof.Rows L2
section
variable {X : Cx} {CX : CXT} {C g : Addr} {n : Nat} {sp : Sp} {E : XK}
def rUnM (C : Addr) (sp : Sp) (E : XK) : V → Hp → VK → Prop := fun x H Q => ∃ a dx fs, x = .ref a ∧ H a = some (.ins C dx fs) ∧ sp [.ref a] H Q E
theorem un_invM (M : Meth X.K C "__invert__" g) (F : FnR X.prog X.w X.K X.mg X.base CX n g sp) (hr : Room n X.A) (hx : Passes CX X E) : UnR X (unaryOp .Invert) (rUnM C sp E) := by
  intro pins s σ H x v Q I rx h
  obtain ⟨a, dx, fs, rfl, ha, q⟩ := h
  cases (show v = Value.ref a from rx)
  obtain ⟨ox, od, J⟩ := ins_at I ha
  obtain ⟨m, hF⟩ := I.fr
  exact PySem.W.ksp_inv hF I.ok.mod.kin J M.at_ M.fn (wpAny_call (run_fnR (us := [.ref a]) (vs := [.ref a]) F hr hx I (.cons rfl .nil) q))
end
/-- a list that an instance's change leaves -/
theorem SeqI.but {K : PySem.W.Frag} {H F : Hp} {a x C dx : Addr} {gs : List (Str × V)} {ns : List Int} (h : SeqI K H a ns) (hx : H x = some (.ins C dx gs)) (k : But x H F) : SeqI K F a ns := by
  have ne : ∀ o, H a = some o → (∀ C dx gs, o ≠ .ins C dx gs) → a ≠ x := fun o e no z => by
    subst z
    rw [hx] at e
    injection e with e
    exact no _ _ _ e.symm
  rcases h with h | h
  · rcases h with (h | ⟨o, h⟩) | h
    · exact .inl (.inl (.inl (k _ _ (ne _ h (fun _ _ _ e => nomatch e)) h)))
    · exact .inl (.inl (.inr ⟨o, k _ _ (ne _ h (fun _ _ _ e => nomatch e)) h⟩))
    · exact .inl (.inr h)
  · rcases h with (h | ⟨o, h⟩) | h
    · exact .inr (.inl (.inl (k _ _ (ne _ h (fun _ _ _ e => nomatch e)) h)))
    · exact .inr (.inl (.inr ⟨o, k _ _ (ne _ h (fun _ _ _ e => nomatch e)) h⟩))
    · exact .inr (.inr h)
theorem sqL_ty {K : PySem.W.Frag} {H : Hp} {a : Addr} {xs : List V} (h : SqL K H a xs) : (∃ t, TyX K H (.ref a) t ∧ (t = .type "list")) ∨ ∃ o, H a = some (.frz o (.lst xs)) := by
  rcases h with (h | ⟨o, h⟩) | ⟨o, its, n, h1, h2, _⟩
  · exact .inl ⟨_, .base (.lst h), rfl⟩
  · exact .inr ⟨o, h⟩
  · exact .inl ⟨_, .kList h1 h2, rfl⟩
/-- e.f within a comprehension -/
theorem pe_fldK {X : Cx} {K : PySem.W.Frag} {ex : Expr} {f : Str} {pos : Pos} {ta : TE} (e : X.K = K) (he : PE X ex ta) (hb : attributeBase ex f X.env (eval ex X.env) = eval ex X.env) : PE X (.Attribute ex f pos) (tFld K ta f) := by
  subst e
  exact pe_fld he hb
theorem szL2 {n : Nat} (h : n ≤ 100000) : n < sizeLine := Nat.lt_of_le_of_lt h (by rw [sizeLine_eq]; decide)
theorem ix_listK {X : Cx} {K : PySem.W.Frag} (e : X.K = K) : IxR X (rIxL K) := by
  subst e
  exact ix_list
theorem ix_tupK {X : Cx} {K : PySem.W.Frag} (e : X.K = K) : IxR X (rIxT K) := by
  subst e
  exact ix_tup
/-- return f(e, ..): the first argument first -/
theorem retc_go {sp : Sp} {ds : List V} {E : XK} {te : TE} {ta : TA} {D : Ends} {σ : L2.St} {H : Hp} (h : te σ H (fun x H1 => ta σ H1 fun xs H2 => sp ((x :: xs) ++ ds) H2 D.rt E)) : tRet (tCall sp ds E (tCons te ta)) D σ H := h
theorem ret_go {te : TE} {D : Ends} {σ : L2.St} {H : Hp} (h : te σ H D.rt) : tRet te D σ H := h
/-- [n for n in a if f n] over a tuple of ints -/
theorem lfilt {K : PySem.W.Frag} {a : Addr} {ns : List Int} {te : TE} {tt : TT} {sl : Nat} {σ : L2.St} {H : Hp} {Q : VK} (f : Int → Bool) (hte : ∀ R : VK, R (.ref a) H → te σ H R) (hS : SqT K H a (ns.map V.int)) (hl : sl < σ.length) (ln : ns.length ≤ 3000)
    (htt : ∀ n Hc (R : Bool → Hp → Prop), Same H Hc → R (f n) Hc → tt ((wipe σ [sl]).set sl (some (.int n))) Hc R)
    (k : ∀ D H', H D = none → Same H H' → H' D = some (.lst ((ns.filter f).map V.int)) → Q (.ref D) H') : tLc (iTup K te) (gName sl) tt (tVar sl) [sl] σ H Q := by
  refine hte _ ⟨a, rfl, ⟨_, hS⟩, fun D hD => lc_it walk_tup (fun i Hc => Hc D = some (.lst (((ns.take i).filter f).map V.int)) ∧ Same H Hc) ⟨upd_same, same_new hD⟩ (fun i Hc _ hR => (Fz.of_same hR.2).sqT hS) (fun j x Hc H' hj hR hy => ?_) (fun Hc hR => ?_)⟩
  · obtain ⟨rfl, hx⟩ := hy
    obtain ⟨n, rfl, tk⟩ := take_int hx
    obtain ⟨hDc, sc⟩ := hR
    refine ⟨by simp [wipe, List.set_set], htt n _ _ sc ?_⟩
    refine ifB (fun g => ?_) (fun g => ?_)
    · refine ⟨.int n, by simp [wipe, List.getElem?_set, hl], _, hDc, ?_, ?_, same_lst sc hD⟩
      · rw [List.length_map]
        have := List.length_filter_le f (ns.take j)
        rw [List.length_take] at this
        exact szL2 (by omega)
      · rw [upd_same, tk, List.filter_append, List.filter_cons, g, List.map_append]
        rfl
    · refine ⟨?_, sc⟩
      rw [tk, List.filter_append, List.filter_cons, g]
      simpa using hDc
  · rw [List.length_map, List.take_length] at hR
    exact k D Hc hD hR.2 hR.1
theorem at_head {y : Int} {t : List Int} : atI ((y :: t).map V.int) 0 = some (.int y) := atI_ok (by decide) rfl rfl
theorem op_in_seqK {X : Cx} {K : PySem.W.Frag} (e : X.K = K) : OpR X (compareOp .In) (rIn K false) := by
  subst e
  exact op_in_seq
/-- [n for n in range(lo, hi) if f n] -/
theorem lcond {targ : TA} {tt : TT} {sl : Nat} {σ : L2.St} {H : Hp} {Q : VK} {lo hi : Int} (f : Int → Bool) (b1 : -1000 ≤ lo) (b2 : lo ≤ 3000) (b3 : -1000 ≤ hi) (b4 : hi ≤ 3000) (harg : ∀ R : List V → Hp → Prop, R [.int lo, .int hi] H → targ σ H R) (hl : sl < σ.length)
    (htt : ∀ n Hc (R : Bool → Hp → Prop), lo ≤ n → n < hi → Same H Hc → R (f n) Hc → tt ((wipe σ [sl]).set sl (some (.int n))) Hc R)
    (k : ∀ D H', H D = none → Same H H' → H' D = some (.lst ((((List.range (hi - lo).toNat).map fun i : Nat => lo + (i : Int)).filter f).map V.int)) → Q (.ref D) H') : tLc (iRng2 targ) (gName sl) tt (tVar sl) [sl] σ H Q := by
  refine harg _ ⟨lo, hi, rfl, by omega, fun D hD => ?_⟩
  refine lc_range (fun i Hc => Hc D = some (.lst ((((List.range i).map fun i : Nat => lo + (i : Int)).filter f).map V.int)) ∧ Same H Hc) ⟨upd_same, same_new hD⟩ (fun i Hc hi' hP => ?_) (fun Hc hP => k D Hc hD hP.2 hP.1)
  obtain ⟨hDc, sc⟩ := hP
  refine ⟨by simp [wipe, List.set_set], htt _ _ _ (by omega) (by omega) sc ?_⟩
  have z : ((List.range (i + 1)).map fun i : Nat => lo + (i : Int)).filter f = ((List.range i).map fun i : Nat => lo + (i : Int)).filter f ++ (if f (lo + (i : Int)) = true then [lo + (i : Int)] else []) := by
    rw [range_succ_map, List.filter_append, List.filter_cons, List.filter_nil]
  refine ifB (fun g => ?_) (fun g => ?_)
  · rw [if_pos g] at z
    refine ⟨.int (lo + (i : Nat)), by simp [wipe, List.getElem?_set, hl], _, hDc, ?_, ?_, same_lst sc hD⟩
    · rw [List.length_map]
      have := List.length_filter_le f ((List.range i).map fun i : Nat => lo + (i : Int))
      rw [List.length_map, List.length_range] at this
      exact szL2 (by omega)
    · rw [upd_same, z, List.map_append]
      rfl
  · rw [if_neg (by rw [g]; exact Bool.false_ne_true), List.append_nil] at z
    rw [z]
    exact ⟨hDc, sc⟩
section
variable {σ : L2.St} {H : Hp}
theorem tst_go {r : R2} {ta tb : TE} {Q : Bool → Hp → Prop} (h : ta σ H fun x H1 => tb σ H1 fun y H2 => r x y H2 fun z H3 => ∃ k, z = .bl k ∧ Q k H3) : tTest (tOp r ta tb) σ H Q := h
theorem or_go {t u : TT} {Q : Bool → Hp → Prop} (h : t σ H fun c H1 => if c = true then Q true H1 else u σ H1 Q) : tOr t u σ H Q := h
theorem prop_go {C : Addr} {sp : Sp} {E : XK} {ta : TE} {Q : VK} (h : ta σ H fun x H1 => ∃ a dx fs, x = .ref a ∧ H1 a = some (.ins C dx fs) ∧ sp [.ref a] H1 Q E) : tProp C sp [] E ta σ H Q := h
theorem opl_go {r : R2} {ta tb : TE} {Q : VK} (h : ta σ H fun x H1 => tb σ H1 fun y H2 => r x y H2 Q) : tOp r ta tb σ H Q := h
theorem un_go {r : V → Hp → VK → Prop} {ta : TE} {Q : VK} (h : ta σ H fun x H1 => r x H1 Q) : tUn r ta σ H Q := h
theorem seqif_go {c : TT} {t u rest : TS} {D : Ends} (h : c σ H fun b H1 => if b = true then t { D with nx := fun σ2 H2 => rest D σ2 H2 } σ H1 else u { D with nx := fun σ2 H2 => rest D σ2 H2 } σ H1) : tSeq (tIfS c t u) rest D σ H := h
end
end Rs
/-! o & p, o <= p and the like by own methods, both of one class. -/
namespace Rs
open PySem PySem.Spec PyProof.Rows L2
section
variable {X : Cx} {CX : CXT} {C g : Addr} {n : Nat} {sp : Sp} {E : XK}
/-- x op y by the class's own method, both instances of the class at C; the answer is not NotImplemented: no value here is -/
def rBinM (C : Addr) (sp : Sp) (E : XK) : R2 := fun x y H Q => ∃ a dx fs b dy gs, x = .ref a ∧ y = .ref b ∧ H a = some (.ins C dx fs) ∧ H b = some (.ins C dy gs) ∧ sp [x, y] H Q E
theorem op_binM {op : Operator} (M : Meth X.K C (dunder op.info.snd) g) (hc : PySem.W.selfFirst X.K C = true) (F : FnR X.prog X.w X.K X.mg X.base CX n g sp) (hr : Room n X.A) (hx : Passes CX X E) : OpR X (binaryOp op) (rBinM C sp E) := by
  intro pins s σ H x y v u Q I rx ry h
  obtain ⟨a, dx, fs, b, dy, gs, rfl, rfl, ha, hb, q⟩ := h
  cases (show v = Value.ref a from rx)
  cases (show u = Value.ref b from ry)
  obtain ⟨ox, od, J⟩ := ins_at I ha
  obtain ⟨oy, ody, Jb⟩ := ins_at I hb
  obtain ⟨m, hF⟩ := I.fr
  refine PySem.W.binop_K hF I.ok.mod.kin J Jb.type hc M.at_ M.fn ?_
  refine wpAny_mono (wpAny_call (run_fnR (us := [.ref a, .ref b]) (vs := [.ref a, .ref b]) F hr hx I (.cons rfl (.cons rfl .nil)) q)) (fun w s' z => ?_) fun _ _ x => x
  obtain ⟨z', H', I', rz, qz⟩ := z
  exact SlX.cmpback rz ⟨z', H', I', rz, qz⟩
/-- x <= y and the like -/
theorem op_cmpM {op : CmpOp} (ho : compareOp op = richCompare op) (M : Meth X.K C ((cmpInfo op).snd.fst) g) (F : FnR X.prog X.w X.K X.mg X.base CX n g sp) (hr : Room n X.A) (hx : Passes CX X E) : OpR X (compareOp op) (rBinM C sp E) := by
  intro pins s σ H x y v u Q I rx ry h
  obtain ⟨a, dx, fs, b, dy, gs, rfl, rfl, ha, hb, q⟩ := h
  cases (show v = Value.ref a from rx)
  cases (show u = Value.ref b from ry)
  obtain ⟨ox, od, J⟩ := ins_at I ha
  obtain ⟨oy, ody, Jb⟩ := ins_at I hb
  obtain ⟨m, hF⟩ := I.fr
  rw [ho]
  refine PySem.W.cmp_K (op := op) (tb := .ref C) hr.units0 hF I.ok.mod.kin J Jb.type notFirst_self M.at_ M.fn ?_
  refine wpAny_mono (wpAny_call (run_fnR (us := [.ref a, .ref b]) (vs := [.ref a, .ref b]) F hr hx I (.cons rfl (.cons rfl .nil)) q)) (fun w s' z => ?_) fun _ _ x => x
  obtain ⟨z', H', I', rz, qz⟩ := z
  exact SlX.cmpback rz ⟨z', H', I', rz, qz⟩
theorem cmpLe : compareOp .LtE = richCompare .LtE := rfl
theorem cmpLt : compareOp .Lt = richCompare .Lt := rfl
theorem cmpGe : compareOp .GtE = richCompare .GtE := rfl
theorem cmpGt : compareOp .Gt = richCompare .Gt := rfl
end
end Rs
/-! list(zip(a, b)) of two lists. -/
namespace Rs
open PySem PySem.Spec PyProof.Rows L2
theorem wpAny_alive {M : Model} {A : Around} {E : Value → Shared → Prop} {s : Shared} {a : Addr} {Q : Option Obj → Shared → Prop} (h : Q (s.heap.get? a) s) : wpAny M A (Sem.loadIfAlive a Sem.pure) Q E s := by
  intro Γ p hΓ
  rw [Sem.wp_loadIfAlive]
  exact h
def zipO (T0 : Addr) (t : Tok) (fl : Bool) (TI TO : Addr) : Obj := { cls := .type "zip", data := .fields #[.int (T0 : Int) t, .bool fl, .bool false, .ref TI, .ref TO] }
section
variable {prog : Program} {w : World} {A : Around} {E : Value → Shared → Prop} {z TI TO i1 i2 l1 l2 T0 : Addr} {k : Nat} {xs ys : Array Value} {x y a b : Value} {o : Obj} {t : Tok} 
theorem draw1 {s : Shared} {it l : Addr} (hA : A.handled = none) (ne : l ≠ it) (h1 : s.heap.IsListIter it l k) (h2 : s.heap.IsList l xs) (hx : xs[k]? = some x) {Q : Value → Shared → Prop}
    (q : ∀ h' tk, h'.IsListIter it l (k + 1) → Heap.SameBut it s.heap h' → Q x { heap := h', gens := s.gens, drawn := s.drawn, toks := tk, os := s.os }) : wpAny (model prog w) A (Builtin.SmallTypes.nextOf (.ref it)) Q E s := by
  have lt : k < xs.size := by
    rcases Nat.lt_or_ge k xs.size with h | h
    · exact h
    · rw [Array.getElem?_eq_none h] at hx
      cases hx
  refine (Draws.list (prog := prog) (w := w) hA it l ne xs).item k s Q E lt ⟨h1, h2⟩ (fun v h' tk hv st sb => ?_)
  rw [hx] at hv
  injection hv with hv
  subst hv
  exact q h' tk st.1 sb
theorem iter_but {h h' : Heap} {c it l : Addr} {i : Nat} (sb : Heap.SameBut c h h') (ne : it ≠ c) (q : h.IsListIter it l i) : h'.IsListIter it l i := by
  obtain ⟨o, e, r⟩ := q
  exact ⟨o, by rw [sb.2 _ ne]; exact e, r⟩
theorem list_but {h h' : Heap} {c l : Addr} {xs : Array Value} (sb : Heap.SameBut c h h') (ne : l ≠ c) (q : h.IsList l xs) : h'.IsList l xs := by
  obtain ⟨o, e, r⟩ := q
  exact ⟨o, by rw [sb.2 _ ne]; exact e, r⟩
theorem owned_no {s : Shared} {fl : Bool} {Q : Bool → Shared → Prop}
    (hz : s.heap.get? z = some { cls := .type "zip", data := .fields #[.int (T0 : Int) t, .bool fl, .bool false, .ref TI, .ref TO] }) (hT : s.heap.get? T0 = some o)
    (q : ∀ h', h'.get? z = some { cls := .type "zip", data := .fields #[.int (T0 : Int) t, .bool true, .bool false, .ref TI, .ref TO] } → Heap.SameBut z s.heap h' →
      Q false { heap := h', gens := s.gens, drawn := s.drawn, toks := s.toks, os := s.os }) :
    wpAny (model prog w) A (Builtin.SmallTypes.ownedTupleIsFree (.ref z)) Q E s := by
  unfold Builtin.SmallTypes.ownedTupleIsFree
  refine wpAny_bind (wpAny_field hz rfl rfl ?_)
  dsimp only
  refine wpAny_bind (wpAny_alive ?_)
  rw [show ((T0 : Int)).toNat = T0 from Int.toNat_natCast T0, hT]
  rw [if_neg (by simp)]
  refine wpAny_bind (wpAny_field hz rfl rfl ?_)
  cases fl
  · split
    · refine wpAny_bind (wpAny_setField hz rfl (show 1 < 5 by decide) (wpAny_pure ?_))
      exact q _ (Heap.get?_update_self _ hz rfl) (Heap.SameBut.update _ _ _)
    · rename_i c
      exact absurd rfl c
  · split
    · rename_i c
      exact absurd c (by simp)
    · exact wpAny_pure (q s.heap hz ⟨rfl, fun _ _ => rfl⟩)
/-- one more pair, the elder one of the zip being held -/
theorem zip_again {s : Shared} {fl : Bool} {Q : PySem.Fin → Shared → Prop} (hA : A.handled = none) (ap : ZipApart z TI TO i1 i2 l1 l2)
    (hz : s.heap.get? z = some { cls := .type "zip", data := .fields #[.int (T0 : Int) t, .bool fl, .bool false, .ref TI, .ref TO] }) (hT : s.heap.get? T0 = some o)
    (hTI : s.heap.get? TI = some { cls := .type "tuple", data := .seq #[.ref i1, .ref i2] })
    (h1 : s.heap.IsListIter i1 l1 k) (h2 : s.heap.IsListIter i2 l2 k) (g1 : s.heap.IsList l1 xs) (g2 : s.heap.IsList l2 ys) (hx : xs[k]? = some x) (hy : ys[k]? = some y)
    (q : ∀ h' tk, h'.get? z = some { cls := .type "zip", data := .fields #[.int (T0 : Int) t, .bool true, .bool false, .ref TI, .ref TO] } → h'.IsListIter i1 l1 (k + 1) → h'.IsListIter i2 l2 (k + 1) →
      h'.get? s.heap.objs.size = some { cls := .type "tuple", data := .seq #[x, y] } → h'.objs.size = s.heap.objs.size + 1 →
      (∀ c o, c ≠ z → c ≠ i1 → c ≠ i2 → s.heap.get? c = some o → h'.get? c = some o) → Q (.done (.ret (.ref s.heap.objs.size))) { heap := h', gens := s.gens, drawn := s.drawn, toks := tk, os := s.os }) :
    wpAny (model prog w) A (Builtin.«zip.__next__» ⟨[.ref z], []⟩) Q E s := by
  unfold Builtin.«zip.__next__»
  repeat (first
    | (refine owned_no hz hT (fun h0 hz0 sb0 => ?_))
    | (refine draw1 hA ap.l2i2 (iter_but sb ap.i12.symm (iter_but sb0 ap.i2z h2)) (list_but sb ap.l2i1 (list_but sb0 ap.l2z g2)) hy (fun h3 tk3 j2 sb3 => ?_))
    | (refine draw1 hA ap.l1i1 (iter_but sb0 ap.i1z h1) (list_but sb0 ap.l1z g1) hx (fun h' tk j1 sb => ?_))
    | wp_step)
  have sz : h3.objs.size = s.heap.objs.size := sb3.1.trans (sb.1.trans sb0.1)
  have old : ∀ c o, c ≠ z → c ≠ i1 → c ≠ i2 → s.heap.get? c = some o → h3.get? c = some o := fun c o c1 c2 c3 h => by
    rw [sb3.2 c c3, sb.2 c c2, sb0.2 c c1]
    exact h
  have z3 : h3.get? z = some { cls := .type "zip", data := .fields #[.int (T0 : Int) t, .bool true, .bool false, .ref TI, .ref TO] } := by
    rw [sb3.2 z ap.i2z.symm, sb.2 z ap.i1z.symm]
    exact hz0
  rw [sz]
  refine q _ _ (Heap.get?_push_of_some _ z3) ?_ ?_ ?_ ?_ ?_
  · obtain ⟨o, e, r⟩ := iter_but sb3 ap.i12 j1
    exact ⟨o, Heap.get?_push_of_some _ e, r⟩
  · obtain ⟨o, e, r⟩ := j2
    exact ⟨o, Heap.get?_push_of_some _ e, r⟩
  · rw [← sz]
    exact Heap.get?_push_size _ rfl
  · rw [Heap.size_push, sz]
  · intro c o c1 c2 c3 h
    exact Heap.get?_push_of_some _ (old c o c1 c2 c3 h)
end
end Rs
namespace Rs
open PySem PySem.Spec PyProof.Rows L2
section
variable {prog : Program} {w : World} {A : Around} {E : Value → Shared → Prop} {z TI TO i1 i2 l1 l2 T0 : Addr} {k : Nat} {xs ys : Array Value} {x y a b : Value} {o : Obj} {t : Tok} 
theorem draw_end {s : Shared} {it l : Addr} (hA : A.handled = none) (ne : l ≠ it) (h1 : s.heap.IsListIter it l xs.size) (h2 : s.heap.IsList l xs) {Q : Value → Shared → Prop}
    (q : ∀ h' e, Heap.ExtBut it s.heap h' → (∃ o, h'.get? e = some o ∧ o.cls = .type "StopIteration") → E (.ref e) { heap := h', gens := s.gens, drawn := s.drawn, toks := s.toks, os := s.os }) : wpAny (model prog w) A (Builtin.SmallTypes.nextOf (.ref it)) Q E s :=
  (Draws.list (prog := prog) (w := w) hA it l ne xs).done s Q E ⟨h1, h2⟩ q
/-- the first list is at its end -/
theorem zip_over {s : Shared} {fl : Bool} {Q : PySem.Fin → Shared → Prop} (hA : A.handled = none) (ap : ZipApart z TI TO i1 i2 l1 l2)
    (hz : s.heap.get? z = some { cls := .type "zip", data := .fields #[.int (T0 : Int) t, .bool fl, .bool false, .ref TI, .ref TO] }) (hT : s.heap.get? T0 = some o)
    (hTI : s.heap.get? TI = some { cls := .type "tuple", data := .seq #[.ref i1, .ref i2] })
    (h1 : s.heap.IsListIter i1 l1 xs.size) (g1 : s.heap.IsList l1 xs)
    (q : ∀ h' e, (∀ c o, c ≠ z → c ≠ i1 → s.heap.get? c = some o → h'.get? c = some o) → (∃ o, h'.get? e = some o ∧ o.cls = .type "StopIteration") → E (.ref e) { heap := h', gens := s.gens, drawn := s.drawn, toks := s.toks, os := s.os }) :
    wpAny (model prog w) A (Builtin.«zip.__next__» ⟨[.ref z], []⟩) Q E s := by
  unfold Builtin.«zip.__next__»
  repeat (first
    | (refine owned_no hz hT (fun h0 hz0 sb0 => ?_))
    | (refine draw_end hA ap.l1i1 (iter_but sb0 ap.i1z h1) (list_but sb0 ap.l1z g1) (fun h' e ex ho => q h' e (fun c o c1 c2 h => ex c o c2 (by rw [sb0.2 c c1]; exact h)) ho))
    | wp_step)
theorem zip_next {s : Shared} {Q : Option Value → Shared → Prop} {fl : Bool} (hA : A.handled = none) (ap : ZipApart z TI TO i1 i2 l1 l2)
    (hz : s.heap.get? z = some { cls := .type "zip", data := .fields #[.int (T0 : Int) t, .bool fl, .bool false, .ref TI, .ref TO] }) (hT : s.heap.get? T0 = some o)
    (hTI : s.heap.get? TI = some { cls := .type "tuple", data := .seq #[.ref i1, .ref i2] })
    (h1 : s.heap.IsListIter i1 l1 k) (h2 : s.heap.IsListIter i2 l2 k) (g1 : s.heap.IsList l1 xs) (g2 : s.heap.IsList l2 ys) (hx : xs[k]? = some x) (hy : ys[k]? = some y)
    (q : ∀ h' tk, h'.get? z = some { cls := .type "zip", data := .fields #[.int (T0 : Int) t, .bool true, .bool false, .ref TI, .ref TO] } → h'.IsListIter i1 l1 (k + 1) → h'.IsListIter i2 l2 (k + 1) →
      h'.get? s.heap.objs.size = some { cls := .type "tuple", data := .seq #[x, y] } → h'.objs.size = s.heap.objs.size + 1 →
      (∀ c o, c ≠ z → c ≠ i1 → c ≠ i2 → s.heap.get? c = some o → h'.get? c = some o) → Q (some (.ref s.heap.objs.size)) { heap := h', gens := s.gens, drawn := s.drawn, toks := tk, os := s.os }) :
    wpAny (model prog w) A (pyNext (.ref z)) Q E s := by
  unfold pyNext
  refine wpAny_bind (wpAny_attempt (wpAny_callSpecial?_slot (T := "zip") ⟨_, hz, rfl⟩ F.slot_zip_next (wpAny_call (codeAny_call_builtin F.slot_zip_next.plain F.entry_zip_next ?_))))
  refine F.slot_zip_next.check _ _ _ s (.ref z) [] [] _ ⟨_, hz, rfl⟩ (F.args_zip_next_1 _) ?_
  exact zip_again (A := A.in1) hA ap hz hT hTI h1 h2 g1 g2 hx hy (fun h' tk a1 a2 a3 a4 a5 a6 => wpAny_pure (q h' tk a1 a2 a3 a4 a5 a6))
theorem zip_end {s : Shared} {Q : Option Value → Shared → Prop} {fl : Bool} (hA : A.handled = none) (ap : ZipApart z TI TO i1 i2 l1 l2)
    (hz : s.heap.get? z = some { cls := .type "zip", data := .fields #[.int (T0 : Int) t, .bool fl, .bool false, .ref TI, .ref TO] }) (hT : s.heap.get? T0 = some o)
    (hTI : s.heap.get? TI = some { cls := .type "tuple", data := .seq #[.ref i1, .ref i2] })
    (h1 : s.heap.IsListIter i1 l1 xs.size) (g1 : s.heap.IsList l1 xs)
    (q : ∀ h', (∀ c o, c ≠ z → c ≠ i1 → s.heap.get? c = some o → h'.get? c = some o) → Q none { heap := h', gens := s.gens, drawn := s.drawn, toks := s.toks, os := s.os }) :
    wpAny (model prog w) A (pyNext (.ref z)) Q E s := by
  unfold pyNext
  refine wpAny_bind (wpAny_attempt (wpAny_callSpecial?_slot (T := "zip") ⟨_, hz, rfl⟩ F.slot_zip_next (wpAny_call (codeAny_call_builtin F.slot_zip_next.plain F.entry_zip_next ?_))))
  refine F.slot_zip_next.check _ _ _ s (.ref z) [] [] _ ⟨_, hz, rfl⟩ (F.args_zip_next_1 _) ?_
  refine zip_over (A := A.in1) hA ap hz hT hTI h1 g1 (fun h' e old ho => ?_)
  obtain ⟨o, ho, hc⟩ := ho
  dsimp only
  refine wpAny_bind (wpAny_isInstance (T := "StopIteration") (b := true) ⟨o, ho, hc⟩ (by first | rfl | simp [isSubtype] | decide) ?_)
  rw [if_pos rfl]
  exact wpAny_pure (q h' old)
/-- how a zip stands behind k pairs, the first one at T0 -/
structure ZSt (h : Heap) (z TI TO i1 i2 l1 l2 T0 : Addr) (xs ys : Array Value) (k : Nat) : Prop where
  zip : ∃ t fl, h.get? z = some { cls := .type "zip", data := .fields #[.int (T0 : Int) t, .bool fl, .bool false, .ref TI, .ref TO] }
  old : ∃ o, h.get? T0 = some o
  its : h.get? TI = some { cls := .type "tuple", data := .seq #[.ref i1, .ref i2] }
  at1 : h.IsListIter i1 l1 k
  at2 : h.IsListIter i2 l2 k
  li1 : h.IsList l1 xs
  li2 : h.IsList l2 ys
/-- the pairs laid down so far -/
structure ZOut (h : Heap) (lo : Nat) (xs ys : Array Value) (as : List Addr) : Prop where
  rise : as.Pairwise (· < ·)
  above : ∀ a ∈ as, lo ≤ a
  pairs : ∀ (j : Nat) (a : Addr), as[j]? = some a → ∃ x y, xs[j]? = some x ∧ ys[j]? = some y ∧ h.get? a = some { cls := .type "tuple", data := .seq #[x, y] }
theorem far {a b lo : Nat} (h : b < lo) (h2 : lo ≤ a) : a ≠ b := by omega
theorem ZOut.snoc {h h' : Heap} {lo : Nat} {xs ys : Array Value} {as : List Addr} {x y : Value} {n : Nat} (q : ZOut h lo xs ys as) (hn : as.length = n) (hx : xs[n]? = some x) (hy : ys[n]? = some y) (ho : ∀ a ∈ as, ∀ o, h.get? a = some o → h'.get? a = some o) (hl : lo ≤ h.objs.size)
    (hw : h'.get? h.objs.size = some { cls := .type "tuple", data := .seq #[x, y] }) : ZOut h' lo xs ys (as ++ [h.objs.size]) where
  rise := by
    rw [List.pairwise_append]
    refine ⟨q.rise, List.pairwise_singleton _ _, fun a ha b hb => ?_⟩
    rw [List.mem_singleton] at hb
    subst hb
    obtain ⟨j, hj⟩ := List.getElem?_of_mem ha
    obtain ⟨_, _, _, _, e⟩ := q.pairs j a hj
    exact Heap.lt_size e
  above := fun a ha => by
    rcases List.mem_append.mp ha with ha | ha
    · exact q.above a ha
    · rw [List.mem_singleton] at ha
      exact ha ▸ hl
  pairs := fun j a e => by
    rcases Nat.lt_or_ge j as.length with lt | ge
    · rw [List.getElem?_append_left lt] at e
      obtain ⟨x', y', ex, ey, et⟩ := q.pairs j a e
      exact ⟨x', y', ex, ey, ho a (List.mem_of_getElem? e) _ et⟩
    · rw [List.getElem?_append_right ge] at e
      have j0 : j - as.length = 0 := by
        rcases Nat.eq_zero_or_pos (j - as.length) with z | z
        · exact z
        · rw [List.getElem?_eq_none (by simp; omega)] at e
          cases e
      rw [j0] at e
      injection e with e
      subst e
      have : j = n := by omega
      subst this
      exact ⟨x, y, hx, hy, hw⟩
theorem quietL {args : Args} : (Code.builtin "list.extend.loop" args).quiet = true := by
  first | exact Code.quiet_builtin _ (by decide +kernel) | exact plainId_quiet (by decide +kernel) _
theorem zip_loop {R : Result → Shared → Prop} (hA : A.handled = none) (ap : ZipApart z TI TO i1 i2 l1 l2) (hl : xs.size = ys.size) (hs : xs.size ≤ sizeLine) {S : Addr} (ne : S ≠ z ∧ S ≠ TI ∧ S ≠ i1 ∧ S ≠ i2 ∧ S ≠ l1 ∧ S ≠ l2 ∧ S ≠ T0 ∧ S ≠ TO) (T0z : T0 ≠ z ∧ T0 ≠ i1 ∧ T0 ≠ i2) (res : Value) {lo : Nat} (lz : z < lo ∧ i1 < lo ∧ i2 < lo ∧ S < lo) (h0 : Heap) (s0 : Shared)
    (fin : ∀ (s' : Shared) (acc : Array Value) (c : Nat) (as : List Addr), s'.gens = s0.gens ∧ s'.drawn = s0.drawn ∧ s'.os = s0.os → (∀ b o, b ≠ z → b ≠ i1 → b ≠ i2 → b ≠ S → h0.get? b = some o → s'.heap.get? b = some o) → s'.heap.get? S = some { cls := .type "list", data := .seq acc c } →
      acc.toList = as.map Value.ref → as.length = xs.size → ZOut s'.heap lo xs ys as → R (.ok (.ret res)) s') :
    ∀ (d k : Nat) (s : Shared) (acc : Array Value) (c : Nat) (as : List Addr), (s.gens = s0.gens ∧ s.drawn = s0.drawn ∧ s.os = s0.os) → xs.size - k = d → k ≤ xs.size → lo ≤ s.heap.objs.size → ZSt s.heap z TI TO i1 i2 l1 l2 T0 xs ys k → (∀ b o, b ≠ z → b ≠ i1 → b ≠ i2 → b ≠ S → h0.get? b = some o → s.heap.get? b = some o) →
      s.heap.get? S = some { cls := .type "list", data := .seq acc c } → acc.toList = as.map Value.ref → as.length = k → ZOut s.heap lo xs ys as →
      codeAny (model prog w) A (.builtin "list.extend.loop" { pos := [.ref S, .ref z, res] }) R s := by
  intro d
  induction d with
  | zero =>
    intro k s acc c as he hd hk hlo zs old hS ha hn zo
    obtain ⟨t, fl, hz⟩ := zs.zip
    obtain ⟨o, hT⟩ := zs.old
    have ek : k = xs.size := by omega
    subst ek
    refine codeAny_builtin F.entry_extend_loop ?_
    unfold Builtin.«list.extend.loop»
    dsimp only
    refine wpAny_bind (zip_end (A := A.under _) hA ap hz hT zs.its zs.at1 zs.li1 (fun h' kp => ?_))
    dsimp only
    have kS : ∀ b o, b ≠ z → b ≠ i1 → b ≠ i2 → b ≠ S → h0.get? b = some o → h'.get? b = some o := fun b o b1 b2 b3 b4 h => kp b o b1 b2 (old b o b1 b2 b3 b4 h)
    refine wpAny_pure (fin _ acc c as he kS (kp _ _ ne.1 ne.2.2.1 hS) ha hn ⟨zo.rise, zo.above, fun j a e => ?_⟩)
    obtain ⟨x, y, ex, ey, et⟩ := zo.pairs j a e
    have := zo.above a (List.mem_of_getElem? e)
    exact ⟨x, y, ex, ey, kp _ _ (far lz.1 this) (far lz.2.1 this) et⟩
  | succ d ih =>
    intro k s acc c as he hd hk hlo zs old hS ha hn zo
    obtain ⟨t, fl, hz⟩ := zs.zip
    obtain ⟨o, hT⟩ := zs.old
    have lt : k < xs.size := by omega
    have lt2 : k < ys.size := by omega
    have hx : xs[k]? = some xs[k] := Array.getElem?_eq_getElem lt
    have hy : ys[k]? = some ys[k] := Array.getElem?_eq_getElem lt2
    have al : acc.size = k := by
      have := congrArg List.length ha
      rw [Array.length_toList, List.length_map] at this
      omega
    refine codeAny_builtin F.entry_extend_loop ?_
    unfold Builtin.«list.extend.loop»
    dsimp only
    refine wpAny_bind (zip_next (A := A.under _) hA ap hz hT zs.its zs.at1 zs.at2 zs.li1 zs.li2 hx hy (fun h' tk z' j1 j2 tp sz kp => ?_))
    dsimp only
    have hS' := kp S _ ne.1 ne.2.2.1 ne.2.2.2.1 hS
    refine wpAny_bind (wpAny_updateSeq (f := fun v => v.push (.ref s.heap.objs.size)) hS' rfl ?_ (by omega) (by rw [Array.size_push]; omega))
    have sb := Heap.SameBut.update h' S (Obj.mapSeq fun v => v.push (.ref s.heap.objs.size))
    have hS2 := Heap.get?_update_self (Obj.mapSeq fun v => v.push (.ref s.heap.objs.size)) hS' rfl
    generalize h'.update S (Obj.mapSeq fun v => v.push (.ref s.heap.objs.size)) = h2 at sb hS2
    have nS : s.heap.objs.size ≠ S := far lz.2.2.2 hlo
    have kp2 : ∀ b o, b ≠ z → b ≠ i1 → b ≠ i2 → b ≠ S → s.heap.get? b = some o → h2.get? b = some o := fun b o b1 b2 b3 b4 h => by
      rw [sb.2 b b4]
      exact kp b o b1 b2 b3 h
    have lst : ∀ {l : Addr} {vs : Array Value}, l ≠ z → l ≠ i1 → l ≠ i2 → S ≠ l → s.heap.IsList l vs → h2.IsList l vs := fun n1 n2 n3 n4 q => by
      obtain ⟨o, e, r⟩ := q
      exact ⟨o, kp2 _ _ n1 n2 n3 n4.symm e, r⟩
    refine wpAny_pure ⟨quietL, ih (k + 1) _ _ _ (as ++ [s.heap.objs.size]) he (by omega) lt (by show lo ≤ h2.objs.size; rw [sb.1, sz]; omega) ⟨⟨t, true, ?_⟩, ⟨o, kp2 _ _ T0z.1 T0z.2.1 T0z.2.2 ne.2.2.2.2.2.2.1.symm hT⟩, kp2 _ _ ap.TIz ap.TIi1 ap.TIi2 ne.2.1.symm zs.its, iter_but sb ne.2.2.1.symm j1, iter_but sb ne.2.2.2.1.symm j2, lst ap.l1z ap.l1i1 ap.l1i2 ne.2.2.2.2.1 zs.li1, lst ap.l2z ap.l2i1 ap.l2i2 ne.2.2.2.2.2.1 zs.li2⟩ (fun b o b1 b2 b3 b4 h => kp2 b o b1 b2 b3 b4 (old b o b1 b2 b3 b4 h)) hS2 ?_ (by rw [List.length_append, hn]; rfl) (zo.snoc hn hx hy (fun a ha' o e => ?_) hlo ?_)⟩
    · show h2.get? z = _
      rw [sb.2 z ne.1.symm]
      exact z'
    · rw [Array.toList_push, ha, List.map_append]
      rfl
    · have := zo.above a ha'
      exact kp2 a o (far lz.1 this) (far lz.2.1 this) (far lz.2.2.1 this) (far lz.2.2.2 this) e
    · show h2.get? _ = _
      rw [sb.2 _ nS]
      exact tp
end
end Rs
open PySem PySem.Spec PyProof.Rows L2
namespace Rs
section
variable {prog : Program} {w : World} {A : Around} {E : Value → Shared → Prop} {z TI TO i1 i2 l1 l2 T0 : Addr} {k : Nat} {xs ys : Array Value} {x y a b : Value} {o : Obj} {t : Tok} 
theorem zip_nolen : typeLookup (.type "zip") (Str.ofString "__len__") = pure none := rfl
theorem zip_nohint : typeLookup (.type "zip") (Str.ofString "__length_hint__") = pure none := rfl
/-- how a new zip stands -/
structure ZNew (h : Heap) (z TI TO i1 i2 l1 l2 : Addr) (xs ys : Array Value) : Prop where
  zip : IsZip h z TI TO .none
  its : IsPair h TI (.ref i1) (.ref i2)
  own : IsPair h TO .none .none
  at1 : h.IsListIter i1 l1 0
  at2 : h.IsListIter i2 l2 0
  li1 : h.IsList l1 xs
  li2 : h.IsList l2 ys
theorem ext_zip {R : Result → Shared → Prop} {s : Shared} {S : Addr} {res : Value} {c0 : Nat} (hA : A.handled = none) (ap : ZipApart z TI TO i1 i2 l1 l2)
    (zn : ZNew s.heap z TI TO i1 i2 l1 l2 xs ys) (nSz : S ≠ z)
    (hS : s.heap.get? S = some { cls := .type "list", data := .seq #[] c0 })
    (q : ∀ h' c, h'.get? S = some { cls := .type "list", data := .seq #[] c } → Heap.SameBut S s.heap h' → codeAny (model prog w) A (.builtin "list.extend.loop" { pos := [.ref S, .ref z, res] }) R { s with heap := h' }) :
    wpAny (model prog w) A.in1 (Builtin.List.listExtendWith (.ref S) (.ref z) res)
      (fun fin s' => match fin with | .done f => R (.ok f) s' | .again c' => c'.quiet = true ∧ codeAny (model prog w) A c' R s') (fun e s' => R (.error e) s') s := by
  have hz := zn.zip
  have iter : ∀ {E1 : Value → Shared → Prop} {Q1 : Value → Shared → Prop}, Q1 (.ref z) s → wpAny (model prog w) A.in1 (pyIter (.ref z)) Q1 E1 s := fun {E1 Q1} h1 =>
    (WalksT.zip2 (A := A.in1) hA z TI TO i1 i2 l1 l2 ap xs ys).self 0 s Q1 E1 ⟨zn.zip, zn.its, ⟨_, _, zn.own⟩, zn.at1, zn.at2, zn.li1, zn.li2⟩ h1
  have hint : ∀ {A1 : Around} {E1 : Value → Shared → Prop} {Q1 : Bool → Shared → Prop}, Q1 true s → wpAny (model prog w) A1 (Builtin.List.listLengthHint (.ref z)) Q1 E1 s := by
    intro A1 E1 Q1 h1
    unfold Builtin.List.listLengthHint
    repeat (first | (refine wpAny_of_eq zip_nolen ?_) | (refine wpAny_of_eq zip_nohint ?_) | wp_step)
    exact h1
  unfold Builtin.List.listExtendWith
  have sr : (Builtin.List.listSameRef (.ref S) (.ref z) || Value.type "zip" == Value.type "list" || Value.type "zip" == Value.type "tuple") = false := by
    have : Builtin.List.listSameRef (.ref S) (.ref z) = false := by
      unfold Builtin.List.listSameRef
      first | exact beq_false_of_ne nSz | simpa using nSz | simp [nSz]
    rw [this]
    rfl
  refine wpAny_bind (wpAny_typeOf_ref hz ?_)
  rw [sr]
  rw [if_neg (by decide)]
  refine wpAny_bind (iter ?_)
  refine wpAny_bind (wpAny_holding (hint ?_))
  dsimp only
  rw [Bool.true_or, if_pos rfl]
  repeat wp_step
  have s1 := Heap.SameBut.update s.heap S (Obj.mapSeq fun x => x.push Value.none)
  have g1 := Heap.get?_update_self (Obj.mapSeq fun x => x.push Value.none) hS rfl
  have s2 := Heap.SameBut.update (s.heap.update S (Obj.mapSeq fun x => x.push Value.none)) S (Obj.mapSeq fun x => x.pop)
  have g2 := Heap.get?_update_self (Obj.mapSeq fun x => x.pop) g1 rfl
  exact ⟨quietL, q _ _ g2 ⟨s2.1.trans s1.1, fun b hb => (s2.2 b hb).trans (s1.2 b hb)⟩⟩
theorem rawInt_is (n : Nat) : ∃ t, rawInt (n : Int) = .int (n : Int) t := ⟨_, rfl⟩
/-- the walk from the first pair on -/
theorem zip_walk {R : Result → Shared → Prop} {s : Shared} {S : Addr} {c0 : Nat} (hA : A.handled = none) (ap : ZipApart z TI TO i1 i2 l1 l2) (hl : xs.size = ys.size) (n0 : 0 < xs.size) (hs : xs.size ≤ sizeLine) (res : Value)
    (zn : ZNew s.heap z TI TO i1 i2 l1 l2 xs ys) (ne : S ≠ z ∧ S ≠ TI ∧ S ≠ i1 ∧ S ≠ i2 ∧ S ≠ l1 ∧ S ≠ l2 ∧ S ≠ TO)
    (hS : s.heap.get? S = some { cls := .type "list", data := .seq #[] c0 })
    (fin : ∀ (s' : Shared) (acc : Array Value) (c : Nat) (as : List Addr), s'.gens = s.gens ∧ s'.drawn = s.drawn ∧ s'.os = s.os → (∀ b o, b ≠ z → b ≠ TO → b ≠ i1 → b ≠ i2 → b ≠ S → s.heap.get? b = some o → s'.heap.get? b = some o) → s'.heap.get? S = some { cls := .type "list", data := .seq acc c } →
      acc.toList = as.map Value.ref → as.length = xs.size → ZOut s'.heap s.heap.objs.size xs ys as → R (.ok (.ret res)) s') :
    codeAny (model prog w) A (.builtin "list.extend.loop" { pos := [.ref S, .ref z, res] }) R s := by
  have lt2 : 0 < ys.size := by omega
  have hx : xs[0]? = some xs[0] := Array.getElem?_eq_getElem n0
  have hy : ys[0]? = some ys[0] := Array.getElem?_eq_getElem lt2
  have bz := Heap.lt_size zn.zip
  have bS := Heap.lt_size hS
  have b1 : i1 < s.heap.objs.size := by
    obtain ⟨o, e, _⟩ := zn.at1
    exact Heap.lt_size e
  have b2 : i2 < s.heap.objs.size := by
    obtain ⟨o, e, _⟩ := zn.at2
    exact Heap.lt_size e
  refine codeAny_builtin F.entry_extend_loop ?_
  unfold Builtin.«list.extend.loop»
  dsimp only
  refine wpAny_bind (wpAny_pyNext_zip_item ap zn.zip zn.its zn.own zn.at1 zn.at2 zn.li1 zn.li2 hx hy (fun h' z' to' j1 j2 tp sz kp => ?_))
  dsimp only
  have hS' := kp S _ ne.1 ne.2.2.2.2.2.2 ne.2.2.1 ne.2.2.2.1 hS
  refine wpAny_bind (wpAny_updateSeq (f := fun v => v.push (.ref s.heap.objs.size)) hS' rfl ?_ (by decide) (by show 1 ≤ sizeLine + 1; omega))
  have sb := Heap.SameBut.update h' S (Obj.mapSeq fun v => v.push (.ref s.heap.objs.size))
  have hS2 := Heap.get?_update_self (Obj.mapSeq fun v => v.push (.ref s.heap.objs.size)) hS' rfl
  generalize h'.update S (Obj.mapSeq fun v => v.push (.ref s.heap.objs.size)) = h2 at sb hS2
  have nS : s.heap.objs.size ≠ S := far bS (Nat.le_refl _)
  have kp2 : ∀ b o, b ≠ z → b ≠ TO → b ≠ i1 → b ≠ i2 → b ≠ S → s.heap.get? b = some o → h2.get? b = some o := fun b o b1 b2 b3 b4 b5 h => by
    rw [sb.2 b b5]
    exact kp b o b1 b2 b3 b4 h
  have lst : ∀ {l : Addr} {vs : Array Value}, l ≠ z → l ≠ TO → l ≠ i1 → l ≠ i2 → S ≠ l → s.heap.IsList l vs → h2.IsList l vs := fun n1 n2 n3 n4 n5 q => by
    obtain ⟨o, e, r⟩ := q
    exact ⟨o, kp2 _ _ n1 n2 n3 n4 n5.symm e, r⟩
  have tp2 : h2.get? s.heap.objs.size = some { cls := .type "tuple", data := .seq #[xs[0], ys[0]] } := by
    rw [sb.2 _ nS]
    exact tp
  obtain ⟨t, et⟩ := rawInt_is s.heap.objs.size
  refine wpAny_pure ⟨quietL, zip_loop (T0 := s.heap.objs.size) hA ap hl hs ⟨ne.1, ne.2.1, ne.2.2.1, ne.2.2.2.1, ne.2.2.2.2.1, ne.2.2.2.2.2.1, nS.symm, ne.2.2.2.2.2.2⟩ ⟨far bz (Nat.le_refl _), far b1 (Nat.le_refl _), far b2 (Nat.le_refl _)⟩ res (lo := s.heap.objs.size) ⟨bz, b1, b2, bS⟩ h2 s
    (fun s' acc c as he old hS3 ha hn zo => fin s' acc c as he (fun b o n1 n2 n3 n4 n5 h => old b o n1 n3 n4 n5 (kp2 b o n1 n2 n3 n4 n5 h)) hS3 ha hn zo)
    (xs.size - 1) 1 _ _ _ [s.heap.objs.size] ⟨rfl, rfl, rfl⟩ rfl n0 (by show s.heap.objs.size ≤ h2.objs.size; rw [sb.1, sz]; omega)
    ⟨⟨t, false, ?_⟩, ⟨_, tp2⟩, kp2 _ _ ap.TIz ap.TITO ap.TIi1 ap.TIi2 ne.2.1.symm zn.its, iter_but sb ne.2.2.1.symm j1, iter_but sb ne.2.2.2.1.symm j2, lst ap.l1z ap.l1TO ap.l1i1 ap.l1i2 ne.2.2.2.2.1 zn.li1, lst ap.l2z ap.l2TO ap.l2i1 ap.l2i2 ne.2.2.2.2.2.1 zn.li2⟩
    (fun b o _ _ _ _ h => h) hS2 rfl rfl ⟨List.pairwise_singleton _ _, fun a ha => by rw [List.mem_singleton.mp ha]; exact Nat.le_refl _, fun j a e => ?_⟩⟩
  · show h2.get? z = _
    rw [sb.2 z ne.1.symm, ← et]
    exact z'
  · cases j with
    | zero =>
      injection e with e
      subst e
      exact ⟨_, _, hx, hy, tp2⟩
    | succ j => cases e
end
end Rs
open PySem PySem.Spec PyProof.Rows L2
namespace Rs
section
variable {prog : Program} {w : World} {A : Around} {E : Value → Shared → Prop} {z TI TO i1 i2 l1 l2 T0 : Addr} {k : Nat} {xs ys : Array Value} {x y a b : Value} {o : Obj} {t : Tok} 
theorem ZNew.kept {h h' : Heap} (q : ZNew h z TI TO i1 i2 l1 l2 xs ys) (k : ∀ b o, h.get? b = some o → h'.get? b = some o) : ZNew h' z TI TO i1 i2 l1 l2 xs ys where
  zip := k _ _ q.zip
  its := k _ _ q.its
  own := k _ _ q.own
  at1 := by
    obtain ⟨o, e, r⟩ := q.at1
    exact ⟨o, k _ _ e, r⟩
  at2 := by
    obtain ⟨o, e, r⟩ := q.at2
    exact ⟨o, k _ _ e, r⟩
  li1 := by
    obtain ⟨o, e, r⟩ := q.li1
    exact ⟨o, k _ _ e, r⟩
  li2 := by
    obtain ⟨o, e, r⟩ := q.li2
    exact ⟨o, k _ _ e, r⟩
theorem init_zip {R : Result → Shared → Prop} {s : Shared} {S : Addr} {c0 : Nat} (hA : A.handled = none) (ap : ZipApart z TI TO i1 i2 l1 l2) (hl : xs.size = ys.size) (n0 : 0 < xs.size) (hs : xs.size ≤ sizeLine)
    (zn : ZNew s.heap z TI TO i1 i2 l1 l2 xs ys) (ne : S ≠ z ∧ S ≠ TI ∧ S ≠ i1 ∧ S ≠ i2 ∧ S ≠ l1 ∧ S ≠ l2 ∧ S ≠ TO)
    (hS : s.heap.get? S = some { cls := .type "list", data := .seq #[] c0 })
    (fin : ∀ (s' : Shared) (acc : Array Value) (c : Nat) (as : List Addr), s'.gens = s.gens ∧ s'.drawn = s.drawn ∧ s'.os = s.os → (∀ b o, b ≠ z → b ≠ TO → b ≠ i1 → b ≠ i2 → b ≠ S → s.heap.get? b = some o → s'.heap.get? b = some o) → s'.heap.get? S = some { cls := .type "list", data := .seq acc c } →
      acc.toList = as.map Value.ref → as.length = xs.size → ZOut s'.heap s.heap.objs.size xs ys as → R (.ok (.ret .none)) s') :
    codeAny (model prog w) A (.call (.builtin "list.__init__") { pos := [.ref S, .ref z] }) R s := by
  refine codeAny_call_builtin F.called_list.init.plain F.entry_list_init (F.called_list.init.check _ _ _ s (.ref S) [.ref z] [] _ ⟨_, hS, rfl⟩ rfl ?_)
  unfold Builtin.«list.__init__»
  dsimp only
  have hU := Heap.get?_update_self (Obj.mapSeq fun _ => #[]) hS rfl
  have sU := Heap.SameBut.update s.heap S (Obj.mapSeq fun _ => #[])
  have step : wpAny (model prog w) A.in1 (Builtin.List.listExtendWith (.ref S) (.ref z) .none)
      (fun fin s' => match fin with | .done f => R (.ok f) s' | .again c' => c'.quiet = true ∧ codeAny (model prog w) A c' R s') (fun e s' => R (.error e) s') { s with heap := s.heap.update S (Obj.mapSeq fun _ => #[]) } := by
    have kp : ∀ b o, b ≠ S → s.heap.get? b = some o → (s.heap.update S (Obj.mapSeq fun _ => #[])).get? b = some o := fun b o nb h => by
      rw [sU.2 b nb]
      exact h
    have znU : ZNew (s.heap.update S (Obj.mapSeq fun _ => #[])) z TI TO i1 i2 l1 l2 xs ys := by
      refine ⟨kp _ _ ne.1.symm zn.zip, kp _ _ ne.2.1.symm zn.its, kp _ _ ne.2.2.2.2.2.2.symm zn.own, iter_but sU ne.2.2.1.symm zn.at1, iter_but sU ne.2.2.2.1.symm zn.at2, list_but sU ne.2.2.2.2.1.symm zn.li1, list_but sU ne.2.2.2.2.2.1.symm zn.li2⟩
    refine ext_zip (xs := xs) (ys := ys) hA ap znU ne.1 hU (fun h' c hS' sb => ?_)
    have kp2 : ∀ b o, b ≠ S → s.heap.get? b = some o → h'.get? b = some o := fun b o nb h => by
      rw [sb.2 b nb]
      exact kp b o nb h
    have zn2 : ZNew h' z TI TO i1 i2 l1 l2 xs ys := by
      refine ⟨kp2 _ _ ne.1.symm zn.zip, kp2 _ _ ne.2.1.symm zn.its, kp2 _ _ ne.2.2.2.2.2.2.symm zn.own, iter_but sb ne.2.2.1.symm znU.at1, iter_but sb ne.2.2.2.1.symm znU.at2, list_but sb ne.2.2.2.2.1.symm znU.li1, list_but sb ne.2.2.2.2.2.1.symm znU.li2⟩
    have sz : h'.objs.size = s.heap.objs.size := sb.1.trans sU.1
    refine zip_walk hA ap hl n0 hs .none zn2 ne hS' (fun s' acc c as he old h3 ha hn zo => fin s' acc c as he (fun b o b1 b2 b3 b4 b5 h => old b o b1 b2 b3 b4 b5 (kp2 b o b5 h)) h3 ha hn ?_)
    rw [← sz]
    exact zo
  repeat (first
    | (refine step)
    | wp_step)
/-- list(z), z a new zip of two lists of one length -/
theorem call_list_zip {s : Shared} {Q : Value → Shared → Prop} (hA : A.handled = none) (ap : ZipApart z TI TO i1 i2 l1 l2) (hl : xs.size = ys.size) (n0 : 0 < xs.size) (hs : xs.size ≤ sizeLine)
    (zn : ZNew s.heap z TI TO i1 i2 l1 l2 xs ys)
    (fin : ∀ (s' : Shared) (acc : Array Value) (c : Nat) (as : List Addr), s'.gens = s.gens ∧ s'.drawn = s.drawn ∧ s'.os = s.os → (∀ b o, b ≠ z → b ≠ TO → b ≠ i1 → b ≠ i2 → s.heap.get? b = some o → s'.heap.get? b = some o) → s'.heap.get? s.heap.objs.size = some { cls := .type "list", data := .seq acc c } →
      acc.toList = as.map Value.ref → as.length = xs.size → ZOut s'.heap (s.heap.objs.size + 1) xs ys as → Q (.ref s.heap.objs.size) s') :
    wpAny (model prog w) A (call (.type "list") [.ref z]) Q E s := by
  have lt : ∀ b o, s.heap.get? b = some o → b ≠ s.heap.objs.size := fun b o e => (far (Heap.lt_size e) (Nat.le_refl _)).symm
  have ne : s.heap.objs.size ≠ z ∧ s.heap.objs.size ≠ TI ∧ s.heap.objs.size ≠ i1 ∧ s.heap.objs.size ≠ i2 ∧ s.heap.objs.size ≠ l1 ∧ s.heap.objs.size ≠ l2 ∧ s.heap.objs.size ≠ TO := by
    obtain ⟨_, a1, _⟩ := zn.at1
    obtain ⟨_, a2, _⟩ := zn.at2
    obtain ⟨_, a3, _⟩ := zn.li1
    obtain ⟨_, a4, _⟩ := zn.li2
    exact ⟨(lt _ _ zn.zip).symm, (lt _ _ zn.its).symm, (lt _ _ a1).symm, (lt _ _ a2).symm, (lt _ _ a3).symm, (lt _ _ a4).symm, (lt _ _ zn.own).symm⟩
  have zn2 : ZNew (s.heap.push { cls := .type "list", data := .seq #[] }) z TI TO i1 i2 l1 l2 xs ys := zn.kept fun b o e => Heap.get?_push_of_some _ e
  refine wpAny_call (codeAny_of_tree ?_)
  have e : (model prog w).den (Code.call (Value.type "list") { pos := [Value.ref z] }) = denote table (Code.call (Value.type "list") { pos := [Value.ref z] }) := rfl
  rw [e]
  unfold denote
  dsimp only
  unfold callAny
  dsimp only
  refine wpAny_pure ⟨Code.quiet_builtin _ (by decide +kernel), codeAny_builtin F.entry_type_call ?_⟩
  unfold Builtin.«type.__call__»
  dsimp only
  repeat (first
    | (refine wpAny_of_eq (F.typeCall_list_1 _) ?_)
    | (refine wpAny_of_eq F.called_list.made ?_)
    | (refine wpAny_call (code_list_new _ ?_))
    | (refine wpAny_isInstance (T := "list") ⟨_, Heap.get?_push_size _ rfl, rfl⟩ F.called_list.sub ?_)
    | (refine wpAny_callSpecial?_slot (T := "list") ⟨_, Heap.get?_push_size _ rfl, rfl⟩ F.called_list.init (wpAny_call (init_zip (A := A.under _) hA ap hl n0 hs zn2 ne (Heap.get?_push_size _ rfl) (fun s' acc c as he old h3 ha hn zo => ?_))))
    | wp_step)
  refine fin s' acc c as he (fun b o b1 b2 b3 b4 h => old b o b1 b2 b3 b4 (lt b o h) (Heap.get?_push_of_some _ h)) h3 ha hn ?_
  have sz : (s.heap.push { cls := .type "list", data := .seq #[] }).objs.size = s.heap.objs.size + 1 := Heap.size_push _ _
  exact sz ▸ zo
end
end Rs
/-! many new objects laid at once -/
open PySem PySem.Spec PyProof.Rows L2
namespace Rs
/-- a heap's first n objects -/
def cutH (h : Heap) (n : Nat) : Heap := { h with objs := h.objs.extract 0 n }
theorem cutH_at {h : Heap} {n : Nat} {b : Nat} (lt : b < n) : (cutH h n).objs[b]? = h.objs[b]? := by
  unfold cutH
  dsimp only
  rw [Array.getElem?_extract]
  split
  · rw [Nat.zero_add]
  · rw [Array.getElem?_eq_none (by omega)]
theorem cutH_get {h : Heap} {n : Nat} {b : Addr} (lt : b < n) : (cutH h n).get? b = h.get? b := by
  unfold Heap.get?
  rw [cutH_at lt]
theorem cutH_size {h : Heap} {n : Nat} (le : n ≤ h.objs.size) : (cutH h n).objs.size = n := by
  unfold cutH
  simp
  omega
theorem cutH_lt {h : Heap} {n : Nat} {b : Addr} {u : Obj} (le : n ≤ h.objs.size) (e : (cutH h n).get? b = some u) : b < n := by
  have := Heap.lt_size e
  rw [cutH_size le] at this
  exact this
theorem lay {X : Cx} {pins : List (Addr × Obj)} {σ : L2.St} {h' : Heap} {g : Array GenState} {dr : Drawn} {tk : Nat} {os : OsState} : ∀ (ts : List (Addr × HO)) (H : Hp) (n : Nat), Inv X pins σ H { heap := cutH h' n, gens := g, drawn := dr, toks := tk, os := os } → n ≤ h'.objs.size →
    (∀ p ∈ ts, n ≤ p.1 ∧ p.1 < h'.objs.size) → ts.Pairwise (fun p q => p.1 < q.1) → (∀ p ∈ ts, ∀ H h, h.get? p.1 = h'.get? p.1 → ObjOk X.prog X.w H h p.1 p.2) →
    Inv X pins σ (ts.foldl (fun H p => upd H p.1 p.2) H) { heap := h', gens := g, drawn := dr, toks := tk, os := os }
  | [], H, n, I, le, _, _, _ => I.kept (t' := tk) fun b u e => by
    have lt := cutH_lt le e
    rw [cutH_get lt] at e
    exact e
  | p :: ts, H, n, I, le, hp, rise, ok => by
    have p0 := hp p (List.mem_cons_self ..)
    have pn : p.1 + 1 ≤ h'.objs.size := p0.2
    have rr := List.pairwise_cons.mp rise
    refine lay ts (upd H p.1 p.2) (p.1 + 1) (I.laid (h' := cutH h' (p.1 + 1)) (t' := tk) (fun b u e => ?_) ?_ (ok p (List.mem_cons_self ..) _ _ (cutH_get (Nat.lt_succ_self _)))) pn (fun q hq => ⟨rr.1 q hq, (hp q (List.mem_cons_of_mem _ hq)).2⟩) rr.2 fun q hq => ok q (List.mem_cons_of_mem _ hq)
    · have lt := cutH_lt le e
      rw [cutH_get lt] at e
      rw [cutH_get (show b < p.1 + 1 from Nat.lt_succ_of_lt (Nat.lt_of_lt_of_le lt p0.1))]
      exact e
    · show (cutH h' n).objs.size ≤ p.1
      rw [cutH_size le]
      exact p0.1
theorem laid_many {X : Cx} {pins : List (Addr × Obj)} {σ : L2.St} {H : Hp} {s : Shared} {h' : Heap} {tk : Nat} {ts : List (Addr × HO)} (I : Inv X pins σ H s) (k : ∀ b u, s.heap.get? b = some u → h'.get? b = some u) (sz : s.heap.objs.size ≤ h'.objs.size)
    (hp : ∀ p ∈ ts, s.heap.objs.size ≤ p.1 ∧ p.1 < h'.objs.size) (rise : ts.Pairwise (fun p q => p.1 < q.1)) (ok : ∀ p ∈ ts, ∀ H h, h.get? p.1 = h'.get? p.1 → ObjOk X.prog X.w H h p.1 p.2) :
    Inv X pins σ (ts.foldl (fun H p => upd H p.1 p.2) H) { heap := h', gens := s.gens, drawn := s.drawn, toks := tk, os := s.os } :=
  lay ts H s.heap.objs.size (I.kept (h' := cutH h' s.heap.objs.size) (t' := tk) fun b u e => by
    rw [cutH_get (Heap.lt_size e)]
    exact k b u e) sz hp rise ok
theorem laid_at {ts : List (Addr × HO)} : ∀ {H : Hp} {a : Addr}, (∀ p ∈ ts, p.1 ≠ a) → ts.foldl (fun H p => upd H p.1 p.2) H a = H a := by
  induction ts with
  | nil => exact fun _ => rfl
  | cons p ts ih =>
    intro H a h
    rw [List.foldl_cons, ih fun q hq => h q (List.mem_cons_of_mem _ hq)]
    exact upd_ne (h p (List.mem_cons_self ..)).symm
theorem laid_in {ts : List (Addr × HO)} : ∀ {H : Hp} {p : Addr × HO}, ts.Pairwise (fun p q => p.1 < q.1) → p ∈ ts → ts.foldl (fun H p => upd H p.1 p.2) H p.1 = some p.2 := by
  induction ts with
  | nil => exact fun _ h => nomatch h
  | cons q ts ih =>
    intro H p r h
    have rr := List.pairwise_cons.mp r
    rw [List.foldl_cons]
    rcases List.mem_cons.mp h with rfl | h
    · rw [laid_at fun q hq => Nat.ne_of_gt (rr.1 q hq)]
      exact upd_same
    · exact ih rr.2 h
end Rs
/-! the rule of list(zip(a, b)) -/
open PySem PySem.Spec PyProof.Rows L2
namespace Rs
def tListZip (ta : TA) : TE := fun σ H Q => ta σ H fun vs H1 => ∃ (a b : Addr) (xs ys : List V), vs = [.ref a, .ref b] ∧ H1 a = some (.lst xs) ∧ H1 b = some (.lst ys) ∧ xs.length = ys.length ∧ 0 < xs.length ∧
  ∀ (H' : Hp) (L : Addr) (ts : List Addr), Same H1 H' → H1 L = none → H' L = some (.lst (ts.map V.ref)) → ts.length = xs.length →
    (∀ (j : Nat) (t : Addr), ts[j]? = some t → H1 t = none ∧ ∃ x y, xs[j]? = some x ∧ ys[j]? = some y ∧ H' t = some (.tup [x, y])) → Q (.ref L) H'
theorem zip_pair {α β : Type} {as : List α} {bs : List β} {p : α × β} (h : p ∈ as.zip bs) : ∃ j : Nat, as[j]? = some p.1 ∧ bs[j]? = some p.2 := by
  obtain ⟨j, hj⟩ := List.getElem?_of_mem h
  rw [List.getElem?_zip_eq_some] at hj
  exact ⟨j, hj.1, hj.2⟩
theorem vals_refs : ∀ as : List Addr, Vals (as.map V.ref) (as.map Value.ref)
  | [] => .nil
  | _ :: as => .cons rfl (vals_refs as)
theorem lay_zip {X : Cx} {pins : List (Addr × Obj)} {σ : L2.St} {H : Hp} {s s' : Shared} {L : Addr} {acc : Array Value} {c : Nat} {as : List Addr} {xs ys : List V} {us vs : List Value} (I : Inv X pins σ H s) (he : s'.gens = s.gens ∧ s'.drawn = s.drawn ∧ s'.os = s.os)
    (k : ∀ b u, s.heap.get? b = some u → s'.heap.get? b = some u) (hL : s.heap.objs.size ≤ L) (gL : s'.heap.get? L = some { cls := .type "list", data := .seq acc c }) (ea : acc.toList = as.map Value.ref) (el : as.length = us.length)
    (zo : ZOut s'.heap (L + 1) us.toArray vs.toArray as) (rx : Vals xs us) (ry : Vals ys vs) (l1 : us.length ≤ sizeLine) (l2 : us.length = vs.length) :
    ∃ H', Inv X pins σ H' s' ∧ Same H H' ∧ H L = none ∧ H' L = some (.lst (as.map V.ref)) ∧ ∀ (j : Nat) (t : Addr), as[j]? = some t → H t = none ∧ ∃ x y, xs[j]? = some x ∧ ys[j]? = some y ∧ H' t = some (.tup [x, y]) := by
  have lx := rx.length
  have ly := ry.length
  have szL := Heap.lt_size gL
  have sa : ∀ a ∈ as, L < a := fun a ha => zo.above a ha
  have sb : ∀ a ∈ as, a < s'.heap.objs.size := fun a ha => by
    obtain ⟨j, hj⟩ := List.getElem?_of_mem ha
    obtain ⟨_, _, _, _, e⟩ := zo.pairs j a hj
    exact Heap.lt_size e
  have fresh : ∀ b, s.heap.objs.size ≤ b → H b = none := fun b hb => I.hok.fresh hb
  have pl : (List.zipWith (fun x y => HO.tup [x, y]) xs ys).length = as.length := by
    rw [List.length_zipWith]
    omega
  have mf : (as.zip (List.zipWith (fun x y => HO.tup [x, y]) xs ys)).map Prod.fst = as := List.map_fst_zip (by omega)
  have rise : ((L, HO.lst (as.map V.ref)) :: as.zip (List.zipWith (fun x y => HO.tup [x, y]) xs ys)).Pairwise (fun p q => p.1 < q.1) := by
    refine List.pairwise_cons.mpr ⟨fun q hq => sa _ ?_, ?_⟩
    · rw [← mf]
      exact List.mem_map_of_mem hq
    · have := zo.rise
      rw [← mf, List.pairwise_map] at this
      exact this
  have J := laid_many (h' := s'.heap) (tk := s'.toks) (ts := (L, HO.lst (as.map V.ref)) :: as.zip (List.zipWith (fun x y => HO.tup [x, y]) xs ys)) I k (Nat.le_of_lt (Nat.lt_of_le_of_lt hL szL)) (fun p hp => ?_) rise (fun p hp H h e => ?_)
  · refine ⟨List.foldl (fun (H : Hp) (p : Addr × HO) => upd H p.1 p.2) H ((L, HO.lst (as.map V.ref)) :: as.zip (List.zipWith (fun x y => HO.tup [x, y]) xs ys)), ?_, ?_, fresh L hL, laid_in rise (List.mem_cons_self ..), fun j t ht => ?_⟩
    · obtain ⟨e1, e2, e3⟩ := he
      rw [← e1, ← e2, ← e3] at J
      exact J
    · intro b o hb
      rw [laid_at]
      · exact hb
      · intro p hp c
        have : H b = none := fresh b ?_
        · rw [this] at hb; cases hb
        · subst c
          rcases List.mem_cons.mp hp with rfl | hp
          · exact hL
          · obtain ⟨j, hj, _⟩ := zip_pair hp
            exact Nat.le_of_lt (Nat.lt_of_le_of_lt hL (sa _ (List.mem_of_getElem? hj)))
    · have lt : j < as.length := (List.getElem?_eq_some_iff.mp ht).1
      have ex : xs[j]? = some xs[j] := List.getElem?_eq_getElem (by omega)
      have ey : ys[j]? = some ys[j] := List.getElem?_eq_getElem (by omega)
      refine ⟨fresh t (Nat.le_of_lt (Nat.lt_of_le_of_lt hL (sa _ (List.mem_of_getElem? ht)))), _, _, ex, ey, ?_⟩
      refine laid_in (p := (t, HO.tup [xs[j], ys[j]])) rise (List.mem_cons_of_mem _ (List.mem_of_getElem? (i := j) ?_))
      rw [List.getElem?_zip_eq_some]
      refine ⟨ht, ?_⟩
      rw [List.getElem?_zipWith, ex, ey]
  · rcases List.mem_cons.mp hp with rfl | hp
    · exact ⟨hL, szL⟩
    · obtain ⟨j, hj, _⟩ := zip_pair hp
      have := List.mem_of_getElem? hj
      exact ⟨Nat.le_of_lt (Nat.lt_of_le_of_lt hL (sa _ this)), sb _ this⟩
  · rcases List.mem_cons.mp hp with rfl | hp
    · refine ⟨by rw [List.length_map]; omega, as.map Value.ref, c, vals_refs as, ?_⟩
      rw [e]
      show s'.heap.get? L = _
      rw [gL, ← ea]
    · obtain ⟨j, hj, h2⟩ := zip_pair hp
      obtain ⟨u, v, eu, ev, et⟩ := zo.pairs j p.1 hj
      have lt : j < as.length := (List.getElem?_eq_some_iff.mp hj).1
      have ex : xs[j]? = some xs[j] := List.getElem?_eq_getElem (by omega)
      have ey : ys[j]? = some ys[j] := List.getElem?_eq_getElem (by omega)
      rw [List.getElem?_zipWith, ex, ey] at h2
      injection h2 with h2
      rw [← h2]
      obtain ⟨u', hu, ru⟩ := rx.get ex
      obtain ⟨v', hv, rv⟩ := ry.get ey
      rw [List.getElem?_toArray] at eu ev
      rw [hu] at eu
      rw [hv] at ev
      injection eu with eu
      injection ev with ev
      subst eu
      subst ev
      exact ⟨by show 2 ≤ sizeLine; decide, [u', v'], .cons ru (.cons rv .nil), ⟨_, e.trans et, rfl, _, rfl⟩⟩
theorem apart {n a b : Nat} (ha : a < n) (hb : b < n) : ZipApart (n + 4) (n + 2) (n + 3) n (n + 1) a b := by
  constructor <;> (intro e; have e' : (_ : Nat) = _ := e; omega)
theorem ne4 {n b : Nat} (h : b < n) : b ≠ n + 4 ∧ b ≠ n + 3 ∧ b ≠ n ∧ b ≠ n + 1 := by omega
theorem pe_listZip {X : Cx} {e e2 : Expr} {ta : TA} {p p2 zpos pos : Pos} (hc : X.calm = true) (hg : Gl X "list") (hm : X.mg "list" = none) (hz : Gl X "zip") (hmz : X.mg "zip" = none) (ha : PA X [e, e2] ta)
    (hs : starEach [e, e2] X.env = (false, eval e X.env) :: starEach [e2] X.env := by rfl) (hs2 : ((backTo zpos (starEach [e2] X.env)).any fun x => x.1) = false := by rfl)
    (hs3 : starEach [.Call (.Name "zip" p2) [e, e2] [] zpos] X.env = (false, eval (.Call (.Name "zip" p2) [e, e2] [] zpos) X.env) :: starEach [] X.env := by rfl) :
    PE X (.Call (.Name "list" p) [.Call (.Name "zip" p2) [e, e2] [] zpos] [] pos) (tListZip ta) := by
  refine ⟨fun pins s σ H Q I hyp => Call_ (ld_blt I hg hm boot_list (callWith_type1 (spliced_more (Call_ (ld_blt I hz hmz boot_zip (callWith_type1 (thn (ha.run zpos pins s σ H _ I hyp) fun us s1 res => ?_) hs hs2))) hs3) hs3 rfl))⟩
  obtain ⟨vs, H1, I1, r1, a, b, xs, ys, rfl, hA, hB, hl, n0, q⟩ := res
  cases r1 with
  | cons r rr =>
    cases rr with
    | cons r2 rr =>
      cases rr
      cases r
      cases r2
      obtain ⟨us, ru, pa, la⟩ := I1.list (SqL.of hA)
      obtain ⟨vs, rv, pb, lb⟩ := I1.list (SqL.of hB)
      have lu := ru.length
      have lv := rv.length
      refine call_zip_2 pa.isList pb.isList (fun h' z ti to j1 j2 sz kp => ?_)
      have la' : a < s1.heap.objs.size := by
        obtain ⟨o, e, _⟩ := pa.isList
        exact Heap.lt_size e
      have lb' : b < s1.heap.objs.size := by
        obtain ⟨o, e, _⟩ := pb.isList
        exact Heap.lt_size e
      have kl : ∀ {l : Addr} {ws : Array Value}, s1.heap.IsList l ws → h'.IsList l ws := fun q => by
        obtain ⟨o, e, r⟩ := q
        exact ⟨o, kp _ _ e, r⟩
      have es : us.toArray.size = vs.toArray.size := by
        show us.length = vs.length
        omega
      refine spliced_none (call_list_zip (xs := us.toArray) (ys := vs.toArray) (I1.ok.hd hc) (apart la' lb') es (show 0 < us.length by omega) (show us.length ≤ sizeLine by omega) ⟨z, ti, to, j1, j2, kl pa.isList, kl pb.isList⟩ (fun s' acc c as he old hL hacc hn zo => ?_))
      have sz' : h'.objs.size = s1.heap.objs.size + 5 := sz
      obtain ⟨H', J, sm, nL, hH, pr⟩ := lay_zip (L := h'.objs.size) (us := us) (vs := vs) I1 he (fun b' u e' => by
        have lt := Heap.lt_size e'
        exact old b' u (ne4 lt).1 (ne4 lt).2.1 (ne4 lt).2.2.1 (ne4 lt).2.2.2 (kp b' u e')) (by rw [sz']; omega) hL hacc hn zo ru rv (show us.length ≤ sizeLine by omega) (show us.length = vs.length by omega)
      exact ⟨.ref h'.objs.size, H', J, rfl, q H' h'.objs.size as sm nL hH (hn.trans (show us.length = xs.length by omega)) pr⟩
end Rs
/-! math.lcm; v in a tuple of data. -/
namespace Rs
open PySem PySem.Spec PyProof.Rows L2
section
variable {X : Cx}
def rLcm : List V → Hp → VK → Prop := fun vs H Q => ∃ a b : Int, vs = [.int a, .int b] ∧ a.natAbs < 2 ^ 64 ∧ b.natAbs < 2 ^ 64 ∧ Q (.int ((Nat.lcm a.natAbs b.natAbs : Nat) : Int)) H
theorem cr_lcm : CallR X (.builtin "math.lcm") rLcm := by
  intro pins s σ H vs us Q I r h
  obtain ⟨a, b, rfl, ha, hb, q⟩ := h
  obtain ⟨t, u, rfl⟩ := Vals.int2 r
  exact PySem.W.mc_lcm ha hb fun _ => ⟨.int _, H, I.tok _, ⟨_, rfl⟩, q⟩
def rInTD (K : PySem.W.Frag) (neg : Bool) : R2 := fun x y H Q => ∃ d ds, Dp K H x d ∧ Dp K H y (.tuple ds) ∧ SeqAt.shaped d = true ∧ SeqAt.shaped (.tuple ds) = true ∧ Q (.bl (if neg then !(ds.any fun z => PyData.eqv z d) else ds.any fun z => PyData.eqv z d)) H
theorem op_inTD {K : PySem.W.Frag} (e : X.K = K) (hu : X.A.units + 65 < cLine) : OpR X (compareOp .In) (rInTD K false) := by
  subst e
  intro pins s σ H x y v u Q I rx ry h
  obtain ⟨d, ds, hd, he, sd, se, q⟩ := h
  obtain ⟨as, r1⟩ := Dp.reads I d x v hd rx
  obtain ⟨bs, r2⟩ := Dp.reads I (.tuple ds) y u he ry
  exact SeqAt.in_tuple_reads r2 r1 (SeqAt.canLay_of_shaped se) (SeqAt.canLay_of_shaped sd) (PyProof.Rows.room_in_shaped sd hu) ⟨.bl _, H, I, rfl, q⟩
end
/-- [e for x in l] over a list of any things, with a reading of e by its place -/
theorem lmapI {K : PySem.W.Frag} {L : Addr} {xs : List V} {te el : TE} {sl : Nat} {σ : L2.St} {H : Hp} {Q : VK} (f : Nat → V) (hte : ∀ R : VK, R (.ref L) H → te σ H R) (hL : H L = some (.lst xs)) (ln : xs.length ≤ 3000)
    (hel : ∀ (j : Nat) (x : V), xs[j]? = some x → ∀ (Hc : Hp) (R : VK), Same H Hc → (∀ Hd, Same Hc Hd → R (f j) Hd) → el ((wipe σ [sl]).set sl (some x)) Hc R)
    (k : ∀ D H', H D = none → Same H H' → H' D = some (.lst ((List.range xs.length).map f)) → Q (.ref D) H') : tLc (iList K te) (gName sl) tYes el [sl] σ H Q := by
  refine hte _ ⟨L, rfl, ⟨_, SqL.of hL⟩, fun D hD => lc_it walk_list (fun i Hc => Hc D = some (.lst ((List.range i).map f)) ∧ Same H Hc) ⟨upd_same, same_new hD⟩ (fun i Hc _ hR => hR.2.seq (SqL.of hL)) (fun j x Hc H' hj hR hy => ?_) (fun Hc hR => k D Hc hD hR.2 hR.1)⟩
  obtain ⟨rfl, hx⟩ := hy
  obtain ⟨hDc, sc⟩ := hR
  refine ⟨by simp [wipe, List.set_set], ?_⟩
  dsimp only [tYes]
  rw [if_pos rfl]
  have lt : j < xs.length := (List.getElem?_eq_some_iff.mp hx).1
  refine hel j x hx _ _ sc fun Hd sd => ?_
  refine ⟨_, sd _ _ hDc, ?_, ?_, same_lst (sc.trans sd) hD⟩
  · rw [List.length_map, List.length_range]
    exact szL2 (by omega)
  · rw [upd_same, List.range_succ, List.map_append]
    rfl
theorem val_go {te : TE} {v : V} {σ : L2.St} {H : Hp} {Q : VK} (h : ∀ R : VK, R v H → te σ H R) (k : Q v H) : te σ H Q := h Q k
end Rs
/-! str(o) by an own __str__; texts of ints separated by blanks, and what such a text tells. -/
namespace Rs
open PySem PySem.Spec PyProof.Rows L2
section
variable {X : Cx} {CX : CXT} {C g : Addr} {n : Nat} {sp : Sp} {E : XK}
def rStrO (C : Addr) (sp : Sp) (E : XK) : List V → Hp → VK → Prop := fun xs H Q => ∃ a dx fs, xs = [.ref a] ∧ H a = some (.ins C dx fs) ∧ sp [.ref a] H (fun z H' => ∃ y, z = .str y ∧ Q (.str y) H') E
theorem call_strO (M : Meth X.K C "__str__" g) (F : FnR X.prog X.w X.K X.mg X.base CX n g sp) (hr : Room (n + 2) X.A) (hx : Passes CX X E) : CallR X (.type "str") (rStrO C sp E) := by
  intro pins s σ H xs us Q I r h
  obtain ⟨a, dx, fs, rfl, ha, q⟩ := h
  cases r with
  | cons r1 rr =>
    cases rr
    cases (show _ = Value.ref a from r1)
    obtain ⟨ox, od, J⟩ := ins_at I ha
    have hr1 : Room (n + 1) X.A.in1 := Room.in1 hr
    have hr2 : Room n X.A.in1.in1 := Room.in1 hr1
    refine PySem.W.kso_call (by have := hr2.un; omega) I.kIn J M.at_ M.fn ?_
    refine wpAny_mono (wpAny_call (SlX.run_at (us := [.ref a]) (ws := [.ref a]) F hr2 I.env0.in1.in1 hx I (.cons rfl .nil) q)) (fun w s' z => ?_) fun _ _ x => x
    obtain ⟨z', H', I', rz, y, ez, qz⟩ := z
    subst ez
    obtain ⟨t, rfl⟩ := rz
    exact ⟨.str y, H', I', ⟨t, rfl⟩, qz⟩
end
/-! ### texts -/
def nS (n : Int) : Str := Str.ofString (toString n)
def blank : Str := Str.ofString " "
def spaced (ns : List Int) : Str := Txt.join blank (ns.map nS)
theorem nS_free (n : Int) : 32 ∉ TL.tl (nS n) := fun h => (intText_free_32 n).mp h
theorem nS_len {n : Int} (h0 : 0 ≤ n) (h1 : n < 10 ^ 9) : (nS n).length ≤ 10 := by
  have e := PySem.int_text_length_le10 (a := n) (k := 9) (by decide) (by omega)
  unfold nS
  rw [PySem.ofString_length]
  omega
theorem nS_num {n : Int} (h0 : 0 ≤ n) (h1 : n < 10 ^ 9) : PySem.intText? (nS n) = some n := PySem.W.KIN.num_reads h0 (by omega)
theorem nS_inj {n m : Int} (h0 : 0 ≤ n) (h1 : n < 10 ^ 9) (g0 : 0 ≤ m) (g1 : m < 10 ^ 9) (e : nS n = nS m) : n = m := by
  have a := nS_num h0 h1
  rw [e, nS_num g0 g1] at a
  injection a with a
  exact a.symm
theorem nS_map_inj : ∀ {ns ms : List Int}, (∀ n ∈ ns, 0 ≤ n ∧ n < 10 ^ 9) → (∀ n ∈ ms, 0 ≤ n ∧ n < 10 ^ 9) → ns.map nS = ms.map nS → ns = ms
  | [], [], _, _, _ => rfl
  | [], _ :: _, _, _, h => by simp at h
  | _ :: _, [], _, _, h => by simp at h
  | n :: ns, m :: ms, hn, hm, h => by
    rw [List.map_cons, List.map_cons] at h
    injection h with h1 h2
    have a := hn n List.mem_cons_self
    have b := hm m List.mem_cons_self
    rw [nS_inj a.1 a.2 b.1 b.2 h1, nS_map_inj (fun x hx => hn x (List.mem_cons_of_mem _ hx)) (fun x hx => hm x (List.mem_cons_of_mem _ hx)) h2]
theorem nS_not {n : Int} {w : Str} (h0 : 0 ≤ n) (h1 : n < 10 ^ 9) (hw : PySem.intText? w = none) : nS n ≠ w := fun e => by
  have a := nS_num h0 h1
  rw [e, hw] at a
  cases a
theorem join_append {y : Str} : ∀ {a b : List Str}, a ≠ [] → b ≠ [] → Str.join y (a ++ b) = Str.join y a ++ (y ++ Str.join y b)
  | [], _, h, _ => absurd rfl h
  | [x], [], _, h => absurd rfl h
  | [x], z :: b, _, _ => by
    show x ++ y ++ Str.join y (z :: b) = x ++ (y ++ Str.join y (z :: b))
    rw [Str.append_assoc]
  | x :: z :: a, b, _, hb => by
    show x ++ y ++ Str.join y (z :: a ++ b) = x ++ y ++ Str.join y (z :: a) ++ (y ++ Str.join y b)
    rw [join_append (by simp) hb, Str.append_assoc (x ++ y)]
def front (few : List Int) : Str := if few = [] then Str.ofString "-" else spaced few
def calText (few : List Int) (e p : Int) (rests : List Int) : Str :=
  if rests = [] then front few else front few ++ (Str.ofString " from " ++ (nS e ++ (Str.ofString " of " ++ (nS p ++ (Str.ofString ": " ++ spaced rests)))))
def frontW (few : List Int) : List Str := if few = [] then [Str.ofString "-"] else few.map nS
def tailW (e p : Int) (rests : List Int) : List Str := if rests = [] then [] else Str.ofString "from" :: nS e :: Str.ofString "of" :: (nS p ++ Str.ofString ":") :: rests.map nS
theorem frontW_ne {few : List Int} : frontW few ≠ [] := by
  unfold frontW
  split
  · simp
  · rename_i h
    simpa using h
theorem front_join {few : List Int} : front few = Str.join blank (frontW few) := by
  unfold front frontW
  split
  · rfl
  · exact TL.join_eq _ _
theorem calText_join {few rests : List Int} {e p : Int} : calText few e p rests = Str.join blank (frontW few ++ tailW e p rests) := by
  unfold calText tailW
  split
  · rw [List.append_nil, front_join]
  · rename_i h
    rw [join_append frontW_ne (by simp), ← front_join]
    congr 1
    have e1 : Str.ofString " from " = blank ++ (Str.ofString "from" ++ blank) := by decide
    have e2 : Str.ofString " of " = blank ++ (Str.ofString "of" ++ blank) := by decide
    have e3 : Str.ofString ": " = Str.ofString ":" ++ blank := by decide
    obtain ⟨r, t, rfl⟩ := List.exists_cons_of_ne_nil h
    rw [e1, e2, e3]
    have e4 : spaced (r :: t) = Str.join blank (nS r :: t.map nS) := TL.join_eq _ _
    rw [e4]
    show _ = blank ++ (Str.ofString "from" ++ blank ++ (nS e ++ blank ++ (Str.ofString "of" ++ blank ++ ((nS p ++ Str.ofString ":") ++ blank ++ Str.join blank (nS r :: t.map nS)))))
    simp only [Str.append_assoc]
theorem words_split {w : Str} : ∀ {F G X Y : List Str}, (∀ a ∈ F, a ≠ w) → (∀ a ∈ G, a ≠ w) → (X = [] ∨ ∃ t, X = w :: t) → (Y = [] ∨ ∃ t, Y = w :: t) → F ++ X = G ++ Y → F = G ∧ X = Y
  | [], [], _, _, _, _, _, _, e => ⟨rfl, e⟩
  | [], g :: G, X, Y, _, hG, hX, _, e => by
    rcases hX with rfl | ⟨t, rfl⟩
    · simp at e
    · simp only [List.nil_append, List.cons_append] at e
      injection e with e1 _
      exact absurd e1.symm (hG g List.mem_cons_self)
  | f :: F, [], X, Y, hF, _, _, hY, e => by
    rcases hY with rfl | ⟨t, rfl⟩
    · simp at e
    · simp only [List.nil_append, List.cons_append] at e
      injection e with e1 _
      exact absurd e1 (hF f List.mem_cons_self)
  | f :: F, g :: G, X, Y, hF, hG, hX, hY, e => by
    simp only [List.cons_append] at e
    injection e with e1 e2
    obtain ⟨a, b⟩ := words_split (fun x hx => hF x (List.mem_cons_of_mem _ hx)) (fun x hx => hG x (List.mem_cons_of_mem _ hx)) hX hY e2
    rw [e1, a]
    exact ⟨rfl, b⟩
def Small (ns : List Int) : Prop := ∀ n ∈ ns, 0 ≤ n ∧ n < 10 ^ 9
theorem front_free {few : List Int} : ∀ a ∈ frontW few, 32 ∉ TL.tl a := by
  unfold frontW
  split
  · intro a ha
    rw [List.mem_singleton] at ha
    subst ha
    decide
  · intro a ha
    obtain ⟨n, _, rfl⟩ := List.mem_map.mp ha
    exact nS_free n
theorem tail_free {e p : Int} {rests : List Int} : ∀ a ∈ tailW e p rests, 32 ∉ TL.tl a := by
  unfold tailW
  split
  · intro a ha
    cases ha
  · intro a ha
    rcases List.mem_cons.mp ha with rfl | ha
    · decide
    rcases List.mem_cons.mp ha with rfl | ha
    · exact nS_free e
    rcases List.mem_cons.mp ha with rfl | ha
    · decide
    rcases List.mem_cons.mp ha with rfl | ha
    · rw [TL.tl_append]
      intro h
      rcases List.mem_append.mp h with h | h
      · exact nS_free p h
      · revert h
        decide
    · obtain ⟨n, _, rfl⟩ := List.mem_map.mp ha
      exact nS_free n
theorem front_not {few : List Int} (h : Small few) : ∀ a ∈ frontW few, a ≠ Str.ofString "from" := by
  unfold frontW
  split
  · intro a ha
    rw [List.mem_singleton] at ha
    subst ha
    decide
  · intro a ha
    obtain ⟨n, hn, rfl⟩ := List.mem_map.mp ha
    exact nS_not (h n hn).1 (h n hn).2 (by decide +kernel)
theorem tail_head {e p : Int} {rests : List Int} : tailW e p rests = [] ∨ ∃ t, tailW e p rests = Str.ofString "from" :: t := by
  unfold tailW
  split
  · exact .inl rfl
  · exact .inr ⟨_, rfl⟩
theorem front_inj {a b : List Int} (ha : Small a) (hb : Small b) (e : frontW a = frontW b) : a = b := by
  unfold frontW at e
  by_cases h1 : a = []
  · by_cases h2 : b = []
    · rw [h1, h2]
    · rw [if_pos h1, if_neg h2] at e
      obtain ⟨n, t, rfl⟩ := List.exists_cons_of_ne_nil h2
      rw [List.map_cons] at e
      injection e with e1 _
      exact absurd e1.symm (nS_not (hb n List.mem_cons_self).1 (hb n List.mem_cons_self).2 (by decide +kernel))
  · by_cases h2 : b = []
    · rw [if_pos h2, if_neg h1] at e
      obtain ⟨n, t, rfl⟩ := List.exists_cons_of_ne_nil h1
      rw [List.map_cons] at e
      injection e with e1 _
      exact absurd e1 (nS_not (ha n List.mem_cons_self).1 (ha n List.mem_cons_self).2 (by decide +kernel))
    · rw [if_neg h1, if_neg h2] at e
      exact nS_map_inj ha hb e
/-- what a calendar's text tells -/
theorem calText_inj {f1 f2 r1 r2 : List Int} {e1 e2 p1 p2 : Int} (hf1 : Small f1) (hf2 : Small f2) (hr1 : Small r1) (hr2 : Small r2) (he1 : 0 ≤ e1 ∧ e1 < 10 ^ 9) (he2 : 0 ≤ e2 ∧ e2 < 10 ^ 9) (hp1 : 0 ≤ p1 ∧ p1 < 10 ^ 9) (hp2 : 0 ≤ p2 ∧ p2 < 10 ^ 9)
    (h : calText f1 e1 p1 r1 = calText f2 e2 p2 r2) : f1 = f2 ∧ r1 = r2 ∧ (r1 ≠ [] → e1 = e2 ∧ p1 = p2) := by
  rw [calText_join, calText_join, ← TL.join_eq, ← TL.join_eq] at h
  have sp : ∀ {f r : List Int} {e p : Int}, Txt.split (Txt.join blank (frontW f ++ tailW e p r)) blank = frontW f ++ tailW e p r := fun {f r e p} =>
    TL.split_join (s := 32) (S := []) (by decide) (by decide +kernel) (fun z => frontW_ne (List.append_eq_nil_iff.mp z).1) fun a ha => by
      rcases List.mem_append.mp ha with ha | ha
      · exact front_free a ha
      · exact tail_free a ha
  have hw : Txt.split _ blank = Txt.split _ blank := congrArg (fun z => Txt.split z blank) h
  rw [sp, sp] at hw
  obtain ⟨a, b⟩ := words_split (front_not hf1) (front_not hf2) tail_head tail_head hw
  refine ⟨front_inj hf1 hf2 a, ?_⟩
  unfold tailW at b
  by_cases h1 : r1 = []
  · by_cases h2 : r2 = []
    · rw [h1, h2]
      exact ⟨rfl, fun z => absurd rfl z⟩
    · rw [if_pos h1, if_neg h2] at b
      cases b
  · by_cases h2 : r2 = []
    · rw [if_neg h1, if_pos h2] at b
      cases b
    · rw [if_neg h1, if_neg h2] at b
      injection b with _ b
      injection b with b1 b
      injection b with _ b
      injection b with b2 b
      have b3 : nS p1 = nS p2 := by
        have := congrArg TL.tl b2
        rw [TL.tl_append, TL.tl_append] at this
        exact TL.ext_tl (List.append_cancel_right this)
      exact ⟨nS_map_inj hr1 hr2 b, fun _ => ⟨nS_inj he1.1 he1.2 he2.1 he2.2 b1, nS_inj hp1.1 hp1.2 hp2.1 hp2.2 b3⟩⟩
theorem sum_len {ns : List Int} (h : Small ns) : ((ns.map nS).map (·.length)).sum ≤ 10 * ns.length := by
  induction ns with
  | nil => simp
  | cons n ns ih =>
    have a := nS_len (h n List.mem_cons_self).1 (h n List.mem_cons_self).2
    have b := ih fun x hx => h x (List.mem_cons_of_mem _ hx)
    simp only [List.map_cons, List.sum_cons, List.length_cons] at b ⊢
    omega
theorem spaced_len {ns : List Int} (h : Small ns) : (spaced ns).length ≤ 11 * ns.length := by
  unfold spaced
  rw [TL.join_eq]
  induction ns with
  | nil => exact Nat.le_refl _
  | cons n ns ih =>
    have a := nS_len (h n List.mem_cons_self).1 (h n List.mem_cons_self).2
    have b := ih fun x hx => h x (List.mem_cons_of_mem _ hx)
    cases ns with
    | nil =>
      show (nS n).length ≤ _
      simp only [List.length_cons, List.length_nil]
      omega
    | cons m ns =>
      show (nS n ++ blank ++ Str.join blank (nS m :: ns.map nS)).length ≤ _
      rw [Str.length_append, Str.length_append]
      have c : blank.length = 1 := by decide
      have d : (Str.join blank (nS m :: ns.map nS)).length ≤ 11 * (m :: ns).length := b
      simp only [List.length_cons] at d ⊢
      omega
/-- a value, with the heap only grown -/
theorem val_same {te : TE} {v : V} {σ : L2.St} {H : Hp} {Q : VK} (h : ∀ R : VK, (∀ H', Same H H' → R v H') → te σ H R) (k : ∀ H', Same H H' → Q v H') : te σ H Q := h Q k
/-- [e for n in t] over a tuple of ints -/
theorem lmapT {K : PySem.W.Frag} {a : Addr} {ns : List Int} {te el : TE} {sl : Nat} {σ : L2.St} {H : Hp} {Q : VK} (f : Int → V) (hte : ∀ R : VK, R (.ref a) H → te σ H R) (hS : SqT K H a (ns.map V.int)) (ln : ns.length ≤ 3000)
    (hel : ∀ n ∈ ns, ∀ (Hc : Hp) (R : VK), Same H Hc → R (f n) Hc → el ((wipe σ [sl]).set sl (some (.int n))) Hc R)
    (k : ∀ D H', H D = none → Same H H' → H' D = some (.lst (ns.map f)) → Q (.ref D) H') : tLc (iTup K te) (gName sl) tYes el [sl] σ H Q := by
  refine hte _ ⟨a, rfl, ⟨_, hS⟩, fun D hD => lc_it walk_tup (fun i Hc => Hc D = some (.lst ((ns.take i).map f)) ∧ Same H Hc) ⟨upd_same, same_new hD⟩ (fun i Hc _ hR => (Fz.of_same hR.2).sqT hS) (fun j x Hc H' hj hR hy => ?_) (fun Hc hR => ?_)⟩
  · obtain ⟨rfl, hx⟩ := hy
    obtain ⟨hDc, sc⟩ := hR
    rw [List.getElem?_map] at hx
    obtain ⟨n, hn, rfl⟩ := Option.map_eq_some_iff.mp hx
    refine ⟨by simp [wipe, List.set_set], ?_⟩
    dsimp only [tYes]
    rw [if_pos rfl]
    refine hel n (List.mem_of_getElem? hn) _ _ sc ⟨_, hDc, ?_, ?_, same_lst sc hD⟩
    · rw [List.length_map, List.length_take]
      exact szL2 (by omega)
    · rw [upd_same, take_snoc hn, List.map_append]
      rfl
  · rw [List.length_map, List.take_length] at hR
    exact k D Hc hD hR.2 hR.1
end Rs
/-! f"{n:+d}" -/
namespace Rs
open PySem PySem.Spec PyProof.Rows L2
/-- the text of n with its sign -/
def plusS (n : Int) : Str := if n < 0 then nS n else Str.ofString "+" ++ nS n
theorem signs_neg {n : Int} (h : n < 0) : TL.tl (nS n) = 45 :: (Nat.toDigits 10 n.natAbs).map Char.toNat := by
  obtain ⟨m, rfl⟩ : ∃ m : Nat, n = Int.negSucc m := ⟨(-n - 1).toNat, by omega⟩
  unfold nS
  rw [TL.tl_ofString]
  show ("-" ++ Nat.repr (m + 1)).toList.map Char.toNat = _
  rw [String.toList_append, List.map_append, Nat.toList_repr]
  rfl
theorem signs_pos {n : Int} (h : 0 ≤ n) : TL.tl (nS n) = (Nat.toDigits 10 n.natAbs).map Char.toNat := by
  obtain ⟨m, rfl⟩ := Int.eq_ofNat_of_zero_le h
  exact PySem.W.KIN.signs_num m
theorem digits_ne {m : Nat} : (Nat.toDigits 10 m).map Char.toNat ≠ [] := by
  intro h
  have := List.map_eq_nil_iff.mp h
  have l := Nat.toDigits_ne_nil (n := m) (b := 10)
  exact l this
theorem map_plain {l : List Char} : (l.map fun c => (if ((100 : Nat) == 88) = true then c.toUpper else c).toNat) = l.map Char.toNat := rfl
theorem plus_text {n : Int} : PyProof.Rows.intField' { align := 62, sign := some 43, type := some 100 } (decide (n < 0)) [] ((Nat.toDigits 10 n.natAbs).map fun c => (if ((100 : Nat) == 88) = true then c.toUpper else c).toNat) [] 3 = plusS n := by
  refine TL.ext_tl ?_
  rw [map_plain]
  have ne := @digits_ne n.natAbs
  unfold plusS
  by_cases h : n < 0
  · rw [if_pos h, signs_neg h]
    rw [decide_eq_true h]
    generalize (Nat.toDigits 10 n.natAbs).map Char.toNat = ds at ne
    unfold PyProof.Rows.intField'
    cases ds with
    | nil => exact absurd rfl ne
    | cons d ds =>
      simp [TL.tl]
      omega
  · rw [if_neg h, TL.tl_append, signs_pos (by omega)]
    rw [decide_eq_false h]
    generalize (Nat.toDigits 10 n.natAbs).map Char.toNat = ds at ne
    unfold PyProof.Rows.intField'
    cases ds with
    | nil => exact absurd rfl ne
    | cons d ds =>
      simp [TL.tl]
      have z : (-2 - ((ds.length : Int) + 1)).toNat = 0 := by omega
      rw [z, show (Str.ofString "+").cps.toList = [43] by decide]
      rfl
theorem plus_len {n : Int} (h : n.natAbs < 10 ^ 18) : (plusS n).length ≤ 20 := by
  have e := PySem.int_text_length_le10 (a := n) (k := 18) (by decide) h
  have l : (nS n).length ≤ 19 := by
    unfold nS
    rw [PySem.ofString_length]
    omega
  unfold plusS
  split
  · omega
  · rw [Str.length_append]
    have : (Str.ofString "+").length = 1 := by decide
    omega
theorem log_small {n : Int} (h : n.natAbs < 10 ^ 18) : n.natAbs.log2 < 1920 := by
  by_cases z : n.natAbs = 0
  · rw [z]; decide
  · refine (Nat.log2_lt z).mpr (Nat.lt_of_lt_of_le h ?_)
    exact Nat.le_trans (show 10 ^ 18 ≤ 2 ^ 64 by decide) (Nat.pow_le_pow_right (by decide) (by decide))
theorem ret_text2 {M : Model} {A : Around} {E : Value → Shared → Prop} {s : Shared} {X T : Str} {Q : PySem.Fin → Shared → Prop} (hl : T.length ≤ sizeLine) (e : X = T) (h : ∀ t k, Q (.done (.ret (.str T t))) { s with toks := k }) : wpAny M A (retStr X) Q E s := PySem.W.KXf.ret_text e (by rw [e]; exact hl) h
theorem fmt_tree {n : Int} {t u : Tok} (h : n.natAbs < 10 ^ 18) : Meets (Builtin.«int.__format__» ⟨[.int n t, .str (Str.ofString "+d") u], []⟩) (fun _ R s => ∀ t' k, R (.ok (.ret (.str (plusS n) t'))) { s with toks := k }) := by
  apply PySem.W.KPc.meets_of
  intro prog w A s Q E hq
  have hl : (plusS n).length ≤ sizeLine := Nat.le_trans (plus_len h) (by rw [sizeLine_eq]; decide)
  have hlog := log_small h
  unfold Builtin.«int.__format__»
  repeat (first
    | (with_reducible refine ret_text2 (T := plusS n) hl ?_ hq)
    | (refine wpAny_bind (wpAny_of_eq (overDigitLimit_small (log_small h)) ?_))
    | wp_step)
  conv =>
    lhs
    arg 1
    change ({ align := 62, sign := some 43, type := some 100 } : PySem.Builtin.Float.FormatSpec)
  conv =>
    lhs
    arg 3
    change ([] : List Nat)
  conv =>
    lhs
    arg 4
    change ((Nat.toDigits 10 n.natAbs).map fun c => (if ((100 : Nat) == 88) = true then c.toUpper else c).toNat)
  conv =>
    lhs
    arg 6
    change 3
  exact plus_text
/-- {e:+d} -/
def tFmtPlus (te : TE) : TE := fun σ H Q => te σ H fun x H1 => ∃ i : Int, x = .int i ∧ i.natAbs < 10 ^ 18 ∧ Q (.str (plusS i)) H1
theorem pe_fmtPlus {X : Cx} {e spec : Expr} {te : TE} {pos : Pos} (he : PE X e te) (hs : PE X spec (tC (.str (Str.ofString "+d")))) : PE X (.FormattedValue e (-1) (some spec) pos) (tFmtPlus te) := by
  refine ⟨fun pins s σ H Q I h => ?_⟩
  refine wpAny_FormattedValue_spec (thn (he.run pins s σ H _ I h) fun v s1 hv => ?_)
  obtain ⟨x, H1, I1, r1, i, rfl, hz, q⟩ := hv
  obtain ⟨t, rfl⟩ := r1
  refine thn (hs.run pins s1 σ H1 (fun y H2 => y = .str (Str.ofString "+d") ∧ H2 = H1) I1 ⟨rfl, rfl⟩) fun r s2 hr => ?_
  obtain ⟨y, H2, I2, r2, rfl, rfl⟩ := hr
  obtain ⟨u, rfl⟩ := r2
  refine ⟨_, u, rfl, ?_⟩
  exact PySem.W.KXf.field_int rfl (by decide +kernel) (by decide +kernel) (fun u => fmt_tree hz) fun t' k => ⟨.str (plusS i), H2, I2.tok k, ⟨t', rfl⟩, q⟩
end Rs
/-! {o} in an f-string, o of a class with its own __str__ -/
namespace Rs
open PySem PySem.Spec PyProof.Rows L2
structure FmtO (K : PySem.W.Frag) (C : Addr) : Prop where
  fmt : PySem.W.findIn K (.ref C) "__format__" = some (some (.builtin "object.__format__"))
  obj : PySem.W.mroIn K C (.type "object") = some true
section
variable {X : Cx} {CX : CXT} {C g : Addr} {n : Nat} {sp : Sp} {E : XK}
def tFmtO (C : Addr) (sp : Sp) (E : XK) (te : TE) : TE := fun σ H Q => te σ H fun x H1 => ∃ a dx fs, x = .ref a ∧ H1 a = some (.ins C dx fs) ∧ sp [.ref a] H1 (fun z H' => ∃ y, z = .str y ∧ Q (.str y) H') E
theorem pe_fmtO {e : Expr} {te : TE} {pos : Pos} (he : PE X e te) (O : FmtO X.K C) (M : Meth X.K C "__str__" g) (F : FnR X.prog X.w X.K X.mg X.base CX n g sp) (hr : Room (n + 1) X.A) (hx : Passes CX X E) : PE X (.FormattedValue e (-1) none pos) (tFmtO C sp E te) := by
  refine ⟨fun pins s σ H Q I h => ?_⟩
  refine wpAny_FormattedValue_plain (thn (he.run pins s σ H _ I h) fun v s1 hv => ?_)
  obtain ⟨x, H1, I1, r1, a, dx, fs, rfl, ha, q⟩ := hv
  cases (show v = Value.ref a from r1)
  obtain ⟨ox, od, J⟩ := ins_at I1 ha
  have hr1 : Room n X.A.in1 := Room.in1 hr
  refine PySem.W.kfo_fieldS (by have := hr1.un; omega) I1.kIn J O.fmt O.obj M.at_ M.fn ?_
  refine wpAny_mono (wpAny_call (SlX.run_at (us := [.ref a]) (ws := [.ref a]) F hr1 (I1.tok (s1.toks + 1)).env0.in1 hx (I1.tok (s1.toks + 1)) (.cons rfl .nil) q)) (fun w s' z => ?_) fun _ _ x => x
  obtain ⟨z', H', I', rz, y, ez, qz⟩ := z
  subst ez
  obtain ⟨t, rfl⟩ := rz
  exact ⟨.str y, H', I', ⟨t, rfl⟩, qz⟩
end
end Rs
/-! comprehensions within comprehensions -/
namespace Rs
open PySem PySem.Spec PyProof.Rows L2
def relabelS (scope sc : Scope) : Scope :=
  { scope with names := scope.names.map fun (n, k) => if (k == .free && sc.kind == .function && sc.names.lookup n == some .cell) then (n, .cell) else (n, k) }
theorem relabel_eq (scope : Scope) (env : Env) : relabel scope env = relabelS scope env.scope := rfl
theorem pi_tupK {X : Cx} {K : PySem.W.Frag} {tg l : Expr} {tl : TE} (e : X.K = K) (hl : PE X l tl) : PI X tg l (iTup K tl) := by
  subst e
  exact pi_tup hl
theorem pi_listK {X : Cx} {K : PySem.W.Frag} {tg l : Expr} {tl : TE} (e : X.K = K) (hl : PE X l tl) : PI X tg l (iList K tl) := by
  subst e
  exact pi_list hl
/-- [n for n in range(hi) if t], where the test may make new objects -/
theorem lcondH {targ : TA} {tt : TT} {sl : Nat} {σ : L2.St} {H : Hp} {Q : VK} {hi : Int} (f : Int → Bool) (b3 : -1000 ≤ hi) (b4 : hi ≤ 3000) (harg : ∀ R : List V → Hp → Prop, R [.int hi] H → targ σ H R) (hl : sl < σ.length)
    (htt : ∀ n Hc (R : Bool → Hp → Prop), 0 ≤ n → n < hi → Same H Hc → (∀ Hd, Same Hc Hd → R (f n) Hd) → tt ((wipe σ [sl]).set sl (some (.int n))) Hc R)
    (k : ∀ D H', H D = none → Same H H' → H' D = some (.lst ((((List.range hi.toNat).map fun i : Nat => (i : Int)).filter f).map V.int)) → Q (.ref D) H') : tLc (iRng1 targ) (gName sl) tt (tVar sl) [sl] σ H Q := by
  refine harg _ ⟨hi, rfl, by omega, by omega, fun D hD => ?_⟩
  refine lc_range (lo := 0) (fun i Hc => Hc D = some (.lst ((((List.range i).map fun i : Nat => (i : Int)).filter f).map V.int)) ∧ Same H Hc) ⟨upd_same, same_new hD⟩ (fun i Hc hi' hP => ?_) (fun Hc hP => ?_)
  · obtain ⟨hDc, sc⟩ := hP
    rw [Int.zero_add]
    refine ⟨by simp [wipe, List.set_set], htt _ _ _ (by omega) (by omega) sc fun Hd sd => ?_⟩
    have z : ((List.range (i + 1)).map fun i : Nat => (i : Int)).filter f = ((List.range i).map fun i : Nat => (i : Int)).filter f ++ (if f (i : Int) = true then [(i : Int)] else []) := by
      rw [range_succ_map, List.filter_append, List.filter_cons, List.filter_nil]
    refine ifB (fun g => ?_) (fun g => ?_)
    · rw [if_pos g] at z
      refine ⟨.int (i : Nat), by simp [wipe, List.getElem?_set, hl], _, sd _ _ hDc, ?_, ?_, same_lst (sc.trans sd) hD⟩
      · rw [List.length_map]
        have := List.length_filter_le f ((List.range i).map fun i : Nat => (i : Int))
        rw [List.length_map, List.length_range] at this
        exact szL2 (by omega)
      · rw [upd_same, z, List.map_append]
        rfl
    · rw [if_neg (by rw [g]; exact Bool.false_ne_true), List.append_nil] at z
      rw [z]
      exact ⟨sd _ _ hDc, sc.trans sd⟩
  · exact k D Hc hD hP.2 hP.1
/-- [e for x in L if t], t never true -/
theorem lnone {K : PySem.W.Frag} {L : Addr} {xs : List V} {te el : TE} {tt : TT} {sl : Nat} {σ : L2.St} {H : Hp} {Q : VK} (hte : ∀ R : VK, (∀ H1, Same H H1 → H1 L = some (.lst xs) → R (.ref L) H1) → te σ H R)
    (htt : ∀ x ∈ xs, ∀ (Hc : Hp) (R : Bool → Hp → Prop), Same H Hc → (∀ Hd, Same Hc Hd → R false Hd) → tt ((wipe σ [sl]).set sl (some x)) Hc R)
    (k : ∀ D H', H D = none → Same H H' → H' D = some (.lst []) → Q (.ref D) H') : tLc (iList K te) (gName sl) tt el [sl] σ H Q := by
  refine hte _ fun H1 s1 hL => ⟨L, rfl, ⟨_, SqL.of hL⟩, fun D hD => lc_it walk_list (fun i Hc => Hc D = some (.lst []) ∧ Same H1 Hc) ⟨upd_same, same_new hD⟩ (fun i Hc _ hR => hR.2.seq (SqL.of hL)) (fun j x Hc H' hj hR hy => ?_) (fun Hc hR => ?_)⟩
  · obtain ⟨rfl, hx⟩ := hy
    obtain ⟨hDc, sc⟩ := hR
    exact ⟨by simp [wipe, List.set_set], htt x (List.mem_of_getElem? hx) _ _ (s1.trans sc) fun Hd sd => ifF rfl ⟨sd _ _ hDc, sc.trans sd⟩⟩
  · exact k D Hc (s1.free hD) (s1.trans hR.2) hR.1
/-- a statement that goes on in several ways, all of which hold C -/
theorem seq_k {t rest : TS} {D : Ends} {σ : L2.St} {H : Hp} (C : L2.St → Hp → Prop) (k : ∀ σ' H', C σ' H' → rest D σ' H') (h : ∀ R : L2.St → Hp → Prop, (∀ σ' H', C σ' H' → R σ' H') → t { D with nx := R } σ H) : tSeq t rest D σ H := h _ k
end Rs
/-! A def's promise at one stand of the machine (what runs around it known), so that repr of lists and tuples can be told. -/
namespace Rs
open PySem PySem.Spec PyProof.Rows L2
/-- the promise of the def at f, called where A runs around -/
structure At (A : Around) (P : Program) (w : World) (K : PySem.W.Frag) (mg : Str → Option Value) (base : Heap) (CX : CXT) (k : Nat) (f : Addr) (ps : List Str) (fd : FuncData) (sp : Sp) : Prop where
  len : ∀ vs H Q E, sp vs H Q E → vs.length = ps.length
  go : ∀ (outer : List Env) (s : Shared) (H : Hp) (args : Args) (us : List Value) (vs : List V) (Q : VK) (E : XK), Room k A → Env0 P w K mg base A outer s H → BindsTo s fd args (ps.zip us) → Vals vs us → sp vs H Q E → codeAny (model P w) A (.call (.ref f) args) (CR CX outer P w H s Q E) s
section
variable {P : Program} {w : World} {K : PySem.W.Frag} {mg : Str → Option Value} {base : Heap}
theorem fun_at {A : Around} {x qual : Str} {st : Stmt} {f : Addr} {fd : FuncData} {N ps : List Str} {k : Nat} {CX : CXT} {sp : Sp} (F : Fun K x qual st f fd) (S : FnScope N ps (defScope st)) (len : ∀ vs H Q E, sp vs H Q E → vs.length = ps.length)
    (body : ∀ (cdv : Value) (outer : List Env) (s : Shared) (H : Hp) (vs : List V) (Q : VK) (E : XK), Room k (A.deeper (envOfC qual (defScope st) s.heap.objs.size f cdv)) → sp vs H Q E →
      ∃ t, PSs (cxOf CX P w K mg base N qual (defScope st) f cdv A outer s H E) (defBody st) t ∧ t { nx := fun _ H' => Q .non H', rt := Q } (start N vs) H) : At A P w K mg base CX (k + 1) f ps fd sp := by
  obtain ⟨oc, od, kV, doc, pm, an, cdv, ct, osl, rfl, lk, code⟩ := F.ex
  refine ⟨len, fun outer s H args us vs Q E room st0 bind rel pre => ?_⟩
  have nargs := len vs H Q E pre
  have inK : K.In s.heap := st0.mod.kin.keeps fun b o hb => (st0.bs b o hb).1
  have free : s.heap.NoLimit := st0.mod.nolimit.keeps fun b o hb => (st0.bs b o hb).1
  refine codeAny_call_function room.depth (inK _ _ lk) rfl S.co S.gen rfl (PySem.W.codeRec_of inK code) (bind _ _ _ _ ?_)
  have kinds : ∀ y ∈ ps.zip us, (defScope st).names.lookup y.1 = some .local ∨ ((defScope st).names.lookup y.1 = some .cell ∧ ((cellsFrom (s.heap.objs.size + 1) (defScope st).names []).lookup y.1).isSome = true) := by
    rintro ⟨n, v⟩ mem
    exact (S.par n (List.of_mem_zip mem).1).elim .inl fun q => .inr ⟨q, PySem.W.cellsFrom_some _ _ _ (.inl q)⟩
  refine wpAny_newFunctionEnv_cells S.kind kinds fun env eq s1 x => ?_
  subst eq
  refine ⟨free.keeps x.toInCall.keep, codeAny_func ?_⟩
  obtain ⟨t, der, rd⟩ := body cdv outer s H vs Q E (room.deeper _) pre
  have inv0 := inv_start (CX := CX) (E := E) S room.hd st0 nargs rel x
  refine wpAny_mono (der.run [] s1 (start N vs) H _ inv0 rd) (fun way s' out => ?_) fun e s' out => out
  cases way with
  | brk => obtain ⟨_, _, _, no⟩ := out; exact no.elim
  | cont => obtain ⟨_, _, _, no⟩ := out; exact no.elim
  | ret u =>
    obtain ⟨v, σ', H', J, rv, q⟩ := out
    exact (⟨v, H', J.os, J.bare, J.base, J.hok, rv, q⟩ : CE outer P w H s Q u s')
  | next =>
    obtain ⟨σ', H', J, q⟩ := out
    exact (⟨V.non, H', J.os, J.bare, J.base, J.hok, rfl, q⟩ : CE outer P w H s Q Value.none s')
end
/-! f(e, ..), its promise told where the body of the caller stands -/
section
variable {X : Cx} {CX : CXT} {k : Nat} {f : Addr} {fd : FuncData} {ps : List Str} {sp : Sp} {E : XK}
theorem pe_callAt {x : Str} {p pos : Pos} {e : Expr} {es : List Expr} {t : TA} (F : At X.A X.prog X.w X.K X.mg X.base CX k f ps fd sp) (hr : Room k X.A) (hg : Gl X x) (hm : X.mg x = some (.ref f)) (hk : PySem.W.keepIn X.K (.ref f) = true) (hb : Binds X.K fd ps []) (hx : Passes CX X E)
    (ha : PA X (e :: es) t) (hdb : (x == ("__debug__" : Str)) = false := by decide) (he : starEach (e :: es) X.env = (false, eval e X.env) :: starEach es X.env := by rfl) (hpl : (backTo pos (starEach es X.env)).any (·.1) = false := by rfl) :
    PE X (.Call (.Name x p) (e :: es) [] pos) (tCall sp [] E t) := by
  refine ⟨fun pins s σ H Q I h => wpAny_Call_Name_kw (ld_glob I hg hm ?_ hdb)⟩
  refine PySem.W.callWith_K (h₀ := X.base) I.ok.mod.kin hk (thn (ha.run pos pins s σ H _ I h) fun us s1 res => ?_) he hpl
  obtain ⟨vs, H1, I1, rel, pre⟩ := res
  rw [List.append_nil] at pre
  have n1 := F.len _ _ _ _ pre
  have n2 : (us ++ []).length = ps.length := by rw [List.append_nil, ← rel.length]; exact n1
  have bd := hb s1 us I1.kIn n2
  rw [List.append_nil] at bd
  refine ⟨I1.kIn, wpAny_call (codeAny_mono (F.go X.stack s1 H1 ⟨us, []⟩ us vs Q E hr I1.env0 bd rel pre) fun r s' out => ?_)⟩
  cases r with
  | error e => exact hx pins σ H1 s1 e s' I1 out
  | ok fl =>
    cases fl with
    | ret u => exact I1.after out
    | next => exact out.elim
    | brk => exact out.elim
    | cont => exact out.elim
end
/-! ### the law's own call -/
/-- what is tracked at the law's call: the script alone, if the top does not hold it -/
def scriptH (K : PySem.W.Frag) (a : Addr) (vs : List Value) (ns : List Int) : Hp := fun b =>
  if b = a ∧ K.lookup a = none then some (.frz { cls := .type "list", data := .seq vs.toArray } (.lst (ns.map V.int))) else none
theorem scriptH_some {K : PySem.W.Frag} {a : Addr} {vs : List Value} {ns : List Int} {b : Addr} {u : HO} (h : scriptH K a vs ns b = some u) : b = a ∧ K.lookup a = none ∧ u = .frz { cls := .type "list", data := .seq vs.toArray } (.lst (ns.map V.int)) := by
  unfold scriptH at h
  by_cases c : b = a ∧ K.lookup a = none
  · rw [if_pos c] at h
    exact ⟨c.1, c.2, (Option.some.inj h).symm⟩
  · rw [if_neg c] at h
    cases h
theorem law_at {P : Program} {w : World} {K : PySem.W.Frag} {mg mb : Str → Option Value} {k : Nat} {fa a : Addr} {fd : FuncData} {x : Str} {sp : Sp} {s₁ : Shared} {vs : List Value} {ns : List Int}
    (inK : K.In s₁.heap) (glb : s₁.heap.Ns mainGlobals mg) (blt : s₁.heap.Ns builtinsNs mb) (blt2 : ∀ x : Str, x ≠ "__name__" → mb x = bootBuiltins x) (free : s₁.heap.NoLimit) (nogen : s₁.gens = #[])
    (obj : s₁.heap.get? a = some { cls := .type "list", data := .seq vs.toArray }) (nums : IntsAre vs ns) (small : ns.length ≤ sizeLine) (room : Room k callerA)
    (F : ∀ base : Heap, K.In base → base.Ns mainGlobals mg → At callerA P w K mg base CX0 k fa [x] fd sp) (bind : ∀ (s : Shared) (u : Value), BindsTo s fd ⟨[u], []⟩ [(x, u)])
    (pre : ∀ H : Hp, SqL K H a (ns.map V.int) → sp [.ref a] H (fun v _ => v = .bl true) fun _ _ _ => False) :
    codeAny (model P w) callerA (.call (.ref fa) ⟨[.ref a], []⟩) (fun r s' => r = .ok (.ret (.bool true)) ∧ OldK s₁.heap s'.heap ∧ s'.os = s₁.os ∧ AllBare s'.gens) s₁ := by
  have rel := vals_ints nums
  have len := nums.length
  have ok : HOk P w (scriptH K a vs ns) s₁.heap := fun b u hb => by
    obtain ⟨rfl, _, rfl⟩ := scriptH_some hb
    exact ⟨obj, by rw [List.length_map]; exact small, vs, _, rel, obj⟩
  have seen : SqL K (scriptH K a vs ns) a (ns.map V.int) := by
    cases c : K.lookup a with
    | none => exact .inl (.inr ⟨_, if_pos ⟨rfl, c⟩⟩)
    | some o =>
      have q := inK a o c
      rw [obj] at q
      cases q
      exact .inr ⟨_, vs.toArray, _, c, rfl, rfl, rfl, by rw [List.size_toArray, len]; exact small, by simpa using rel⟩
  have hid : ∀ {b : Addr} {o : Obj}, s₁.heap.get? b = some o → scriptH K a vs ns b = none → (hidT s₁.heap (scriptH K a vs ns)).get? b = some o := fun e n => hidT_get e n
  have none_of : ∀ {b : Addr} {o : Obj}, s₁.heap.get? b = some o → (b = a → K.lookup a = none → False) → scriptH K a vs ns b = none := fun {b o} _ no => by
    cases q : scriptH K a vs ns b with
    | none => rfl
    | some u =>
      obtain ⟨h1, h2, _⟩ := scriptH_some q
      exact (no h1 h2).elim
  have nsH : ∀ {b : Addr} {m : Str → Option Value}, s₁.heap.Ns b m → (hidT s₁.heap (scriptH K a vs ns)).Ns b m := fun {b m} n => by
    obtain ⟨o, es, ep, e, d, r⟩ := n
    refine ⟨o, es, ep, hid e (none_of e fun h1 _ => ?_), d, r⟩
    subst h1
    rw [obj] at e
    cases e
    have d' : Data.seq vs.toArray _ = Data.dict es ep := d
    cases d'
  have kH : K.In (hidT s₁.heap (scriptH K a vs ns)) := fun b o e => hid (inK b o e) (none_of (inK b o e) fun h1 h2 => by
    subst h1
    rw [h2] at e
    cases e)
  have mod : Mod K mg (hidT s₁.heap (scriptH K a vs ns)) := ⟨kH, nsH glb, ⟨mb, nsH blt, blt2⟩, let ⟨c, h1, h2⟩ := free; ⟨c, nsH h1, h2⟩⟩
  have st0 : Env0 P w K mg (hidT s₁.heap (scriptH K a vs ns)) callerA [] s₁ (scriptH K a vs ns) :=
    ⟨rfl, mod, fun b o e => of_hidT e, Nat.le_of_eq (hidT_size _ _), trivial, fun b hb => absurd (show b ∈ ([] : List Addr) from hb) List.not_mem_nil, ok, .of_eq nogen⟩
  refine codeAny_mono ((F _ kH (nsH glb)).go [] s₁ (scriptH K a vs ns) ⟨[.ref a], []⟩ [.ref a] [.ref a] _ _ room st0 (bind s₁ (.ref a)) (.cons rfl .nil) (pre _ seen)) fun r s' out => ?_
  cases r with
  | error e => exact out.elim
  | ok fl =>
    cases fl with
    | next => exact out.elim
    | brk => exact out.elim
    | cont => exact out.elim
    | ret u =>
      obtain ⟨v, H', os, bare, un, ok', rv, q⟩ := out
      obtain rfl : v = .bl true := q
      obtain rfl : u = Value.bool true := rv
      refine ⟨rfl, OldK.of_keep fun b o e => ?_, os, bare⟩
      cases c : scriptH K a vs ns b with
      | none => exact un.keep b o e c (fun z => absurd (show b ∈ ([] : List Addr) from z) List.not_mem_nil) (by simp)
      | some u =>
        obtain ⟨_, _, rfl⟩ := scriptH_some c
        obtain ⟨e1, _⟩ := ok b _ c
        obtain ⟨e2, _⟩ := ok' b _ (un.frzs b _ _ c)
        rw [e] at e1
        cases e1
        exact e2
theorem walk_at_of {l : PySem.W.OpenLaw} {n k : Nat} {q : Program} {loose : List Str} {XP : (Str → Option Value) → Heap → Prop} {YP : World → Heap → Prop} {d : DefRec} {K : Params → PySem.W.Frag} {sp : World → Sp} {x : Str}
    (most : l.most = some n) (small : n ≤ sizeLine) (nodef : d.params.defaults = []) (room : Room k callerA) (inK : ∀ (w : World) (h : Heap), YP w h → (K w.params).In h)
    (F : ∀ (w : World) (mg : Str → Option Value) (fa : Addr) (h : Heap), (K w.params).In h → h.Ns mainGlobals mg → mg d.name = some (.ref fa) →
      ∃ fd : FuncData, (∀ (s : Shared) (u : Value), BindsTo s fd ⟨[u], []⟩ [(x, u)]) ∧ ∀ base : Heap, (K w.params).In base → base.Ns mainGlobals mg → At callerA l.prog w (K w.params) mg base CX0 k fa [x] fd (sp w))
    (pre : ∀ (w : World) (H : Hp) (a : Addr) (ns : List Int), ns.length ≤ n → SqL (K w.params) H a (ns.map V.int) → sp w [.ref a] H (fun v _ => v = .bl true) fun _ _ _ => False) :
    PySem.W.WalkO q loose XP YP l.row.toRowW d [] (fun f vs => PySem.call f vs) :=
  Att.attach_call most nodef fun w s₀ s₁ mg mb fa o pm cd doc a vs ns G Y ho hd hcd hmg obj nums len nogen => by
    have kx := inK w _ Y
    obtain ⟨fd, bind, promise⟩ := F w mg fa _ kx G.T.g hmg
    exact law_at kx G.T.g G.T.b G.T.builtins G.T.nolimit nogen obj nums (Nat.le_trans len small) room promise bind fun H hS => pre w H a ns len hS
/-! ### repr -/
theorem guards_deeper {A : Around} {env : Env} (h : A.guards = some []) : (A.deeper env).guards = some [] := h
def rRepr (K : PySem.W.Frag) : List V → Hp → VK → Prop := fun xs H Q => ∃ v d, xs = [v] ∧ Dp K H v d ∧ d.showable = true ∧ d.hasDict = false ∧ d.depth ≤ 60 ∧ d.shown.length ≤ sizeLine ∧ Q (.str d.shown) H
theorem call_reprD {X : Cx} {k : Nat} (hr : Room k X.A) (hg : X.A.guards = some []) : CallR X (.builtin "repr") (rRepr X.K) := by
  intro pins s σ H xs us Q I r h
  obtain ⟨v, d, rfl, hd, sh, nd, dp, ln, q⟩ := h
  obtain ⟨u, rfl, ru⟩ := vals1 r
  cases hd with
  | non => obtain rfl : u = Value.none := ru; exact PySem.P.repr_of_none ⟨.str _, H, I.tok _, ⟨_, rfl⟩, q⟩
  | bl b =>
    obtain rfl : u = Value.bool b := ru
    refine PySem.P.repr_of_bool ⟨.str _, H, I.tok _, ⟨_, rfl⟩, ?_⟩
    exact q
  | int i =>
    obtain ⟨t, rfl⟩ := (show ∃ t, u = Value.int i t from ru)
    exact PySem.P.repr_of_int (by simpa [PyData.showable] using sh) ⟨.str _, H, I.tok _, ⟨_, rfl⟩, q⟩
  | str x =>
    obtain ⟨t, rfl⟩ := (show ∃ t, u = Value.str x t from ru)
    exact PySem.P.repr_of_str ⟨.str _, H, I.tok _, ⟨_, rfl⟩, q⟩ ln
  | lst h1 h2 =>
    obtain ⟨as, rd⟩ := Dp.reads I _ _ u (.lst h1 h2) ru
    cases (show u = Value.ref _ from ru)
    exact repr_of_reads' rd sh (fun z => by rw [nd] at z; cases z) hg (by have := hr.units; omega) (fun _ _ e => e) (fun h' t tk hk => ⟨.str _, H, I.kept (t' := tk) hk, ⟨_, rfl⟩, q⟩) ln
  | tup h1 h2 =>
    obtain ⟨as, rd⟩ := Dp.reads I _ _ u (.tup h1 h2) ru
    cases (show u = Value.ref _ from ru)
    exact repr_of_reads' rd sh (fun z => by rw [nd] at z; cases z) hg (by have := hr.units; omega) (fun _ _ e => e) (fun h' t tk hk => ⟨.str _, H, I.kept (t' := tk) hk, ⟨_, rfl⟩, q⟩) ln
section
variable {P : Program} {w : World} {K : PySem.W.Frag} {mg : Str → Option Value} {base : Heap}
/-- the same where nothing is let out -/
theorem fun_at0 {A : Around} {x qual : Str} {st : Stmt} {f : Addr} {fd : FuncData} {N ps : List Str} {k : Nat} {sp : Sp} (F : Fun K x qual st f fd) (S : FnScope N ps (defScope st)) (len : ∀ vs H Q E, sp vs H Q E → vs.length = ps.length)
    (body : ∀ (cdv : Value) (outer : List Env) (s : Shared) (H : Hp) (vs : List V) (Q : VK) (E : XK), Room k (A.deeper (envOfC qual (defScope st) s.heap.objs.size f cdv)) → sp vs H Q E →
      ∃ t, PSs (cxOf CX0 P w K mg base N qual (defScope st) f cdv A outer s H E).nox (defBody st) t ∧ t { nx := fun _ H' => Q .non H', rt := Q } (start N vs) H) : At A P w K mg base CX0 (k + 1) f ps fd sp :=
  fun_at F S len fun cdv outer s H vs Q E hr hsp => by
    obtain ⟨t, h, q⟩ := body cdv outer s H vs Q E hr hsp
    exact ⟨t, h.nox, q⟩
end
end Rs
/-! == of tuples whose items are compared by an own __eq__, with either answer. -/
namespace Rs
open PySem PySem.Spec PyProof.Rows L2 GQ

open MeetsSeq MeetsSeq2 MeetsSeq3 SeqRoads2
section
variable {prog : Program} {w : World} {A : Around} {R : Result → Shared → Prop}
/-- the items are looked at in turn: f i tells whether the i-th two are equal -/
theorem tuple_eqB (l b : Addr) (xs ys : Array Value) (n m : Nat) (dd de : Option Addr) (sl sm : Array (Option Value)) (f : Nat → Bool) (I : Nat → Shared → Prop)
    (turn : ∀ i (h1 : i < xs.size) (h2 : i < ys.size) s, I i s → wpAny (model prog w) A.in1 (eqBool xs[i] ys[i]) (fun r s' => r = f i ∧ I (i + 1) s') (fun e s' => R (.error e) s') s)
    (good : ∀ s, (∀ i, i < xs.size → i < ys.size → f i = true) → I (min xs.size ys.size) s → R (.ok (.ret (.bool (decide (xs.size = ys.size))))) s)
    (bad : ∀ i s, i < xs.size → i < ys.size → f i = false → I (i + 1) s → R (.ok (.ret (.bool false))) s) {s : Shared}
    (hl : s.heap.get? l = some { cls := .type "tuple", dict := dd, data := .seq xs n, slots := sl }) (hb : s.heap.get? b = some { cls := .type "tuple", dict := de, data := .seq ys m, slots := sm }) (h : I 0 s) :
    wpAny (model prog w) A.in1 (Builtin.«tuple.__eq__» ⟨[.ref l, .ref b], []⟩) (FinOf prog w A R) (fun e s' => R (.error e) s') s := by
  have sub := AutoSeq1.sub_tuple_tuple
  have len : (xs.toList.zip ys.toList).length = min xs.size ys.size := by simp
  have start := h
  obtain ⟨hp, g, d, tk, os⟩ := s
  wp_walk using AutoSeq1.wpAny_loadPart' hl, AutoSeq1.wpAny_loadPart' hb, wpAny_forIn_list _ (fun rest st s' => st.1 = none ∧ ∃ i, rest = (xs.toList.zip ys.toList).drop i ∧ i ≤ min xs.size ys.size ∧ I i s' ∧ ∀ j, j < i → f j = true) _
  case turn =>
    rintro ⟨y, x⟩ rest st s' ⟨none0, i, left, le, inv, all⟩
    have lt : i < (xs.toList.zip ys.toList).length := by
      rcases Nat.lt_or_ge i (xs.toList.zip ys.toList).length with c | c
      · exact c
      · rw [List.drop_of_length_le c] at left; cases left
    have i1 : i < xs.size := by omega
    have i2 : i < ys.size := by omega
    rw [List.drop_eq_getElem_cons lt] at left
    injection left with both more
    have ey : y = xs[i] := by have := congrArg Prod.fst both; simpa using this
    have ex : x = ys[i] := by have := congrArg Prod.snd both; simpa using this
    subst ey ex
    refine wpAny_bind (wpAny_mono (turn i i1 i2 s' inv) (fun r s2 q2 => ?_) fun _ _ x => x)
    obtain ⟨er, q2⟩ := q2
    subst er
    cases c : f i with
    | true =>
      wp_walk
      exact ⟨rfl, i + 1, more, by omega, q2, fun j hj => by
        by_cases e : j = i
        · rw [e]; exact c
        · exact all j (by omega)⟩
    | false =>
      have no := bad i s2 i1 i2 c q2
      wp_walk
      exact no
  case fin =>
    rintro ⟨b1, b2⟩ s' ⟨none0, i, left, le, inv, all⟩
    simp only at none0
    subst none0
    have ge : (xs.toList.zip ys.toList).length ≤ i := by
      rcases Nat.lt_or_ge i (xs.toList.zip ys.toList).length with c | c
      · rw [List.drop_eq_getElem_cons c] at left; cases left
      · exact c
    have e : i = min xs.size ys.size := by omega
    subst e
    have yes := good s' (fun j a b => all j (by omega)) inv
    wp_walk
    have e2 : Builtin.Tuple.tupleCompareSizes CmpOp.Eq xs.size ys.size = .bool (decide (xs.size = ys.size)) := by
      simp only [Builtin.Tuple.tupleCompareSizes]
      congr 1
    rw [e2]
    exact yes
  case h =>
    exact ⟨rfl, 0, rfl, Nat.zero_le _, start, fun j hj => by omega⟩
end
section
variable {prog : Program} {w : World} {A : Around} {E : Value → Shared → Prop} {s : Shared}
theorem rc_tupB {l b : Addr} {xs ys : Array Value} {Q : Value → Shared → Prop} (room : A.units < cLine) (f : Nat → Bool) (I : Nat → Shared → Prop) (hl : s.heap.IsTuple l xs) (hb : s.heap.IsTuple b ys)
    (turn : ∀ i (h1 : i < xs.size) (h2 : i < ys.size) s, I i s → wpAny (model prog w) A.in1 (eqBool xs[i] ys[i]) (fun r s' => r = f i ∧ I (i + 1) s') E s)
    (good : ∀ s, (∀ i, i < xs.size → i < ys.size → f i = true) → I (min xs.size ys.size) s → Q (.bool (decide (xs.size = ys.size))) s)
    (bad : ∀ i s, i < xs.size → i < ys.size → f i = false → I (i + 1) s → Q (.bool false) s) (h : I 0 s) : wpAny (model prog w) A (richCompare .Eq (.ref l) (.ref b)) Q E s := by
  obtain ⟨⟨c1, d1, t1, l1⟩, at1, k1, n1, q1⟩ := id hl
  obtain ⟨⟨c2, d2, t2, l2⟩, at2, k2, n2, q2⟩ := id hb
  simp only at k1 q1 k2 q2
  subst k1 q1 k2 q2
  refine wpAny_richCompare_same_room (op := .Eq) ⟨_, at1, rfl⟩ ⟨_, at2, rfl⟩ F.slot_tuple_eq (call_here F.slot_tuple_eq ⟨_, at1, rfl⟩ F.entry_tuple_eq (F.args_tuple_eq_2 _ _) ?_) room
  exact tuple_eqB (R := wants (fun v s' => v ≠ .notImplemented ∧ Q v s') E) l b xs ys n1 n2 d1 d2 l1 l2 f I turn (fun s' a q => ⟨(fun x => nomatch x), good s' a q⟩) (fun i s' a c e q => ⟨(fun x => nomatch x), bad i s' a c e q⟩) at1 at2 h
end
/-- two values, and whether they are equal -/
abbrev EqvB := V → V → Bool → Hp → Prop
def MonB (D : EqvB) : Prop := ∀ x y r H H', Ext H H' → D x y r H → D x y r H'
def EqB (X : Cx) (n : Nat) (D : EqvB) : Prop := ∀ (A : Around) (pins : List (Addr × Obj)) (s : Shared) (σ : L2.St) (H : Hp) (x y : V) (r : Bool) (u v : Value), Sub X n A → Inv X pins σ H s → RelV x u → RelV y v → D x y r H →
  wpAny (model X.prog X.w) A (eqBool u v) (fun q s' => q = r ∧ ∃ H', Inv X pins σ H' s' ∧ Ext H H') X.xe s
def RcB (X : Cx) (n : Nat) (D : EqvB) : Prop := ∀ (A : Around) (pins : List (Addr × Obj)) (s : Shared) (σ : L2.St) (H : Hp) (x y : V) (r : Bool) (u v : Value), Sub X n A → Inv X pins σ H s → RelV x u → RelV y v → D x y r H →
  wpAny (model X.prog X.w) A (richCompare .Eq u v) (fun q s' => q = .bool r ∧ ∃ H', Inv X pins σ H' s' ∧ Ext H H') X.xe s
/-- item by item: the i-th two are equal just if f i -/
def PrsB (D : EqvB) (xs ys : List V) (r : Bool) (H : Hp) : Prop := ∃ f : Nat → Bool, (∀ i x y, xs[i]? = some x → ys[i]? = some y → D x y (f i) H) ∧ (r = true ↔ xs.length = ys.length ∧ ∀ i, i < xs.length → i < ys.length → f i = true)
def DTupB (K : PySem.W.Frag) (D : EqvB) : EqvB := fun x y r H => ∃ a b xs ys, x = .ref a ∧ y = .ref b ∧ SqT K H a xs ∧ SqT K H b ys ∧ PrsB D xs ys r H ∧ (a = b → r = true)
theorem monB_tup {K : PySem.W.Frag} {D : EqvB} (m : MonB D) : MonB (DTupB K D) := fun x y r H H' e d => by
  obtain ⟨a, b, xs, ys, hx, hy, h1, h2, ⟨f, hf, hr⟩, own⟩ := d
  exact ⟨a, b, xs, ys, hx, hy, h1.ext e, h2.ext e, ⟨f, fun i x y a b => m _ _ _ _ _ e (hf i x y a b), hr⟩, own⟩
section
variable {X : Cx} {n : Nat} {D : EqvB}
theorem rcB_tup (m : MonB D) (h : EqB X n D) : RcB X (n + 1) (DTupB X.K D) := by
  intro A pins s σ H x y r u v sb I rx ry d
  obtain ⟨a, b, xs, ys, rfl, rfl, ha, hb, ⟨f, hf, hr⟩, _⟩ := d
  cases rx
  cases ry
  obtain ⟨its, r1, e1, _⟩ := I.tuple ha
  obtain ⟨jts, r2, e2, _⟩ := I.tuple hb
  have l1 := r1.length
  have l2 := r2.length
  refine rc_tupB sb.room.units0 f (fun _ s' => LoopI X pins σ H s') e1 e2 (fun i h1 h2 s' q => ?_) (fun s' all q => ?_) (fun i s' h1 h2 no q => ?_) ⟨H, I, Ext.rfl'⟩
  · obtain ⟨H1, I1, x1⟩ := q
    have c1 : i < its.length := by simpa using h1
    have c2 : i < jts.length := by simpa using h2
    obtain ⟨u, hu, ru⟩ := r1.get (List.getElem?_eq_getElem (show i < xs.length by omega))
    obtain ⟨v, hv, rv⟩ := r2.get (List.getElem?_eq_getElem (show i < ys.length by omega))
    have g1 : its.toArray[i] = u := by
      rw [List.getElem?_eq_getElem c1] at hu
      simpa using Option.some.inj hu
    have g2 : jts.toArray[i] = v := by
      rw [List.getElem?_eq_getElem c2] at hv
      simpa using Option.some.inj hv
    rw [g1, g2]
    refine wpAny_mono (h A.in1 pins s' σ H1 _ _ (f i) u v sb.in1 I1 ru rv (m _ _ _ _ _ x1 (hf i _ _ (List.getElem?_eq_getElem (by omega)) (List.getElem?_eq_getElem (by omega))))) (fun q s2 z => ?_) fun _ _ x => x
    obtain ⟨eq, H2, I2, x2⟩ := z
    exact ⟨eq, H2, I2, x1.trans x2⟩
  · refine ⟨?_, q⟩
    rw [List.size_toArray, List.size_toArray, ← l1, ← l2]
    congr 1
    rw [Bool.eq_iff_iff, decide_eq_true_eq, hr]
    exact ⟨fun e => ⟨e, fun i a b => all i (by simpa [← l1] using a) (by simpa [← l2] using b)⟩, fun e => e.1⟩
  · refine ⟨?_, q⟩
    congr 1
    symm
    rw [← Bool.not_eq_true, hr]
    rintro ⟨_, all⟩
    rw [all i (by simpa [← l1] using h1) (by simpa [← l2] using h2)] at no
    cases no
/-- from the comparison of references to == inside a tuple -/
theorem RcB.eqB (h : RcB X n D) (hr : ∀ x y r H, D x y r H → ∃ a b, x = .ref a ∧ y = .ref b ∧ (a = b → r = true)) : EqB X n D := by
  intro A pins s σ H x y r u v sb I rx ry d
  obtain ⟨a, b, rfl, rfl, own⟩ := hr _ _ _ _ d
  cases rx
  cases ry
  by_cases ab : a = b
  · have e := own ab
    subst ab
    subst e
    exact SeqAt.EqAt.same (A := A) (s := s) (.ref a) X.prog X.w X.xe _ ⟨rfl, H, I, Ext.rfl'⟩
  · refine eqBool_refG ab (wpAny_mono (h A pins s σ H (.ref a) (.ref b) r _ _ sb I rfl rfl d) (fun q s' z => ?_) fun _ _ x => x)
    obtain ⟨e, z⟩ := z
    exact ⟨r, e, rfl, z⟩
/-- instances of the class at C with an own ==: S tells the answer -/
def DInsB (C : Addr) (S : Addr → Addr → Bool → Hp → Prop) : EqvB := fun x y r H => ∃ a b dx dy fs gs, x = .ref a ∧ y = .ref b ∧ H a = some (.ins C dx fs) ∧ H b = some (.ins C dy gs) ∧ S a b r H ∧ (a = b → r = true)
theorem monB_ins {C : Addr} {S : Addr → Addr → Bool → Hp → Prop} (m : ∀ a b r H H', Ext H H' → S a b r H → S a b r H') : MonB (DInsB C S) := fun x y r H H' e d => by
  obtain ⟨a, b, dx, dy, fs, gs, hx, hy, h1, h2, z, own⟩ := d
  exact ⟨a, b, dx, dy, fs, gs, hx, hy, e _ _ h1, e _ _ h2, m _ _ _ _ _ e z, own⟩
theorem rcB_ins {C g : Addr} {S : Addr → Addr → Bool → Hp → Prop} {sp : Sp} (O : OwnQ X.K C g) (F : FnR X.prog X.w X.K X.mg X.base CX0 n g sp) (hx : Passes CX0 X E0)
    (ask : ∀ a b r H, S a b r H → sp [.ref a, .ref b] H (fun v H' => v = .bl r ∧ Ext H H') E0) : RcB X n (DInsB C S) := by
  intro A pins s σ H x y r u v sb I rx ry d
  obtain ⟨a, b, dx, dy, fs, gs, rfl, rfl, ha, hb, z, _⟩ := d
  cases rx
  cases ry
  obtain ⟨ox, od, J⟩ := ins_at I ha
  obtain ⟨oy, oe, Jb⟩ := ins_at I hb
  obtain ⟨m, hF⟩ := I.fr
  refine PySem.W.cmp_K (op := .Eq) (tb := .ref C) sb.room.units0 hF I.ok.mod.kin J Jb.type notFirst_self O.eq O.fn ?_
  have e0 : Env0 X.prog X.w X.K X.mg X.base A X.stack s H := by
    have e := I.env0
    exact ⟨by rw [sb.fr]; exact e.frames, e.mod, e.bs, e.bsz, e.funs, e.frf, e.hok, e.bare⟩
  refine wpAny_mono (wpAny_call (SlX.run_at (us := [.ref a, .ref b]) (ws := [.ref a, .ref b]) F sb.room e0 hx I (.cons rfl (.cons rfl .nil)) (ask a b r H z))) (fun w s' q => ?_) fun _ _ x => x
  obtain ⟨z', H', I', rz, ez, ex⟩ := q
  subst ez
  cases (show w = Value.bool r from rz)
  exact ⟨rfl, H', I', ex⟩
/-- x == y as an expression -/
def rEqB (D : EqvB) : R2 := fun x y H Q => ∃ r, D x y r H ∧ ∀ H', Ext H H' → Q (.bl r) H'
theorem op_eqB (h : RcB X n D) (hr : Room n X.A) : OpR X (compareOp .Eq) (rEqB D) := by
  intro pins s σ H x y v u Q I rx ry hq
  obtain ⟨r, d, q⟩ := hq
  show wpAny (model X.prog X.w) X.A (richCompare .Eq v u) (EP X pins σ Q) X.xe s
  refine wpAny_mono (h X.A pins s σ H x y r v u ⟨hr, rfl⟩ I rx ry d) (fun w s' z => ?_) fun _ _ x => x
  obtain ⟨e, H', I', x⟩ := z
  subst e
  exact ⟨.bl r, H', I', rfl, q H' x⟩
end
end Rs
/-! Lambdas with parameters, without captured names, handed to a def as values; the end of a law row with tables of code objects. -/
namespace Rs
open PySem PySem.Spec PyProof.Rows L2 LamX NdefX
abbrev lamFd (F : NF) (e : Expr) (pm ctv : Value) : FuncData := PySem.W.kla_fn F.name F.qual F.params e F.scope F.cl pm (.ref F.c) ctv
/-- the object at f is the lambda with the body e -/
def LamO (f : Addr) (F : NF) (e : Expr) : HO := .ext fun h => ∃ (od : Option Addr) (sl : Array (Option Value)) (pm ctv : Value), h.get? f = some (⟨.type "function", od, .func (lamFd F e pm ctv), sl⟩ : Obj)
theorem lamO_at {P : Program} {w : World} {H : Hp} {h : Heap} {f : Addr} {F : NF} {e : Expr} (hok : HOk P w H h) (z : H f = some (LamO f F e)) : ∃ (od : Option Addr) (sl : Array (Option Value)) (pm ctv : Value), h.get? f = some (⟨.type "function", od, .func (lamFd F e pm ctv), sl⟩ : Obj) := by
  obtain ⟨q, _, _⟩ := hok f _ z
  exact q
theorem clo_nil {cells : List (Str × Addr)} : ∀ {names : List (Str × NameKind)} {acc : List (Str × Addr)}, (∀ y ∈ names, y.2 ≠ .free) → cloFrom cells names acc = acc
  | [], _, _ => rfl
  | (n, k) :: r, acc, h => by
    have hk : (k == NameKind.free) = false := by
      have z := h (n, k) List.mem_cons_self
      cases k <;> first | rfl | exact absurd rfl z
    unfold cloFrom
    rw [hk]
    exact clo_nil fun y hy => h y (List.mem_cons_of_mem _ hy)
section
variable {X : Cx} {pins : List (Addr × Obj)} {σ : L2.St} {H : Hp} {s : Shared}
theorem inv_lam {F : NF} {e : Expr} {t' : Nat} {pm ctv : Value} (I : Inv X pins σ H s) :
    Inv X pins σ (upd H s.heap.objs.size (LamO s.heap.objs.size F e)) { s with heap := s.heap.push ({ cls := .type "function", data := .func (lamFd F e pm ctv) } : Obj), toks := t' } := by
  refine I.laid (a := s.heap.objs.size) (fun b u e => Heap.get?_push_of_some _ e) (Nat.le_refl _) ?_
  have z : (s.heap.push ({ cls := .type "function", data := .func (lamFd F e pm ctv) } : Obj)).get? s.heap.objs.size = some ({ cls := .type "function", data := .func (lamFd F e pm ctv) } : Obj) := Heap.get?_push_size _ rfl
  exact ⟨⟨_, _, pm, ctv, z⟩, ⟨_, z⟩, fun h1 h2 ⟨od, sl, p, t, z⟩ st => ⟨od, sl, p, t, st _ z⟩⟩
theorem lam_mk {T : List NTab} {nm : Nat → Nat → Str} {c P : Addr} {params : Arguments} {body : Expr} {scope : Scope} {pos : Pos} {E : Value → Shared → Prop} {Q : Value → Shared → Prop} (I : Inv X pins σ H s) (TB : TabB X.base X.mg c P) (hcode : X.env.code = .ref c)
    (here : (P, nm) ∈ T) (nmEq : nm pos.line pos.col = X.env.qual ++ "<lambda>") (one : ∀ p ∈ T, p.1 = P → p.2 = nm) (tabs0 : TabsN T H) (hdef : defaultsOf params X.env = ([], [])) (hfree : ∀ y ∈ scope.names, y.2 ≠ .free)
    (h : ∀ (f c' : Addr) (H1 : Hp) (sn : Shared), Inv X pins σ H1 sn → ExtN H H1 → (∀ b, H1 b = Option.none → H b = Option.none) → TabsN T H1 → H f = none → H1 f = some (LamO f ⟨"<lambda>", X.env.qual ++ "<lambda>", params, [], scope, [], c'⟩ body) → H1 c' = some (CodeO c' (X.env.qual ++ "<lambda>")) → Q (.ref f) sn) :
    wpAny (model X.prog X.w) X.A (eval (.Lambda params body scope pos) X.env) Q E s := by
  obtain ⟨held, atTab, good, told⟩ := (show TabN H P nm from tabs0 _ here)
  refine PySem.W.kla_eval hdef ?_
  have bltn : s.heap.BuiltinsAt X.mg P := TB.bm.keeps I.bk
  have tabIs : s.heap.get? P = some { cls := .none, data := .fields held } := I.hok P _ atTab
  have noClo : closureFor scope X.env = pure [] := by
    have z := closure_ok (scope := scope) (env := X.env) fun y hy e => absurd e (hfree y hy)
    rw [clo_nil hfree] at z
    exact z
  cases look : codeAmong pos held.toList with
  | none =>
    refine PySem.W.kla_makeFunction (mg := X.mg) (c := c) (P := P) (ps := held) noClo I.ok.glob (I.mod.glob.keeps I.bk) hcode (TB.code.keeps I.bk) tabIs good look TB.gP bltn fun c' ctv hh tk kept0 above below rec0 tabNow => ?_
    obtain ⟨cc, cob, flds, tk0, same2, isCode, data0, name0⟩ := rec0
    cases same2
    have newC : H c' = none := I.hok.fresh above
    have J1 := inv_table (t' := tk) (more := #[rawInt pos.line, rawInt pos.col, .ref c']) (h' := hh) I atTab (fun b o same e => kept0 b o same e) tabNow above ⟨cob, flds, tk0, isCode, data0, name0⟩
    have keepN : ExtN H (upd (upd H P (.tbl (held ++ #[rawInt pos.line, rawInt pos.col, .ref c']))) c' (CodeO c' (X.env.qual ++ "<lambda>"))) := fun b o e n => by
      rw [upd_ne (ne_of_none e newC), upd_ne (fun z => n held (Option.some.inj (e.symm.trans (by rw [z]; exact atTab))))]
      exact e
    have eqL : (held ++ #[rawInt pos.line, rawInt pos.col, .ref c']).toList = held.toList ++ [rawInt pos.line, rawInt pos.col, .ref c'] := by simp
    have tabs1 : TabsN T (upd (upd H P (.tbl (held ++ #[rawInt pos.line, rawInt pos.col, .ref c']))) c' (CodeO c' (X.env.qual ++ "<lambda>"))) := fun p hp => by
      by_cases same : p.1 = P
      · rw [one p hp same, same]
        refine ⟨_, by rw [upd_ne (ne_of_none atTab newC), upd_same], by rw [eqL]; exact PySem.TriplesOk_snoc _ _ _ _ good, fun p' cv hit => ?_⟩
        rw [eqL] at hit
        rcases among_app2 _ good hit with z | ⟨z, lineEq, colEq⟩
        · obtain ⟨cod, q1, same2⟩ := told p' cv z
          exact ⟨cod, q1, keepN _ _ same2 codeO_ne⟩
        · refine ⟨c', z, ?_⟩
          rw [← lineEq, ← colEq, nmEq]
          exact upd_same
      · obtain ⟨held', w1, w2, w3⟩ := tabs0 p hp
        refine ⟨held', by rw [upd_ne (ne_of_none w1 newC), upd_ne same]; exact w1, w2, fun p' cv hit => ?_⟩
        obtain ⟨cod, q1, same2⟩ := w3 p' cv hit
        exact ⟨cod, q1, keepN _ _ same2 codeO_ne⟩
    have newF := J1.hok.fresh (Nat.le_refl _)
    have J2 := inv_lam (F := ⟨"<lambda>", X.env.qual ++ "<lambda>", params, [], scope, [], c'⟩) (e := body) (t' := tk) (pm := (X.mg "__name__").getD .none) (ctv := ctv) J1
    refine h hh.objs.size c' _ _ J2 (fun b o e n => ?_) (fun b e => upd_none (upd_none (upd_none e))) (tabs1.ext fun b o e => ?_) (I.hok.fresh (Nat.le_trans above (Nat.le_of_lt below))) upd_same ?_
    · have q1 := keepN b o e n
      exact (upd_ne (ne_of_none q1 newF)).trans q1
    · exact (upd_ne (ne_of_none e newF)).trans e
    · exact (upd_ne (Nat.ne_of_lt below)).trans upd_same
  | some cv =>
    obtain ⟨c', e, known⟩ := told pos cv look
    subst e
    rw [nmEq] at known
    refine PySem.W.kla_makeFunctionHit (mg := X.mg) (c := c) (P := P) (ps := held) noClo I.ok.glob (I.mod.glob.keeps I.bk) hcode (TB.code.keeps I.bk) tabIs good look bltn fun ctv hh tk kept0 size0 => ?_
    have J1 : Inv X pins σ H { s with heap := hh, toks := tk } := I.kept kept0
    have newF : H hh.objs.size = none := J1.hok.fresh (Nat.le_refl _)
    have J2 := inv_lam (F := ⟨"<lambda>", X.env.qual ++ "<lambda>", params, [], scope, [], c'⟩) (e := body) (t' := tk) (pm := (X.mg "__name__").getD .none) (ctv := ctv) J1
    refine h hh.objs.size c' _ _ J2 (fun b o e n => ?_) (fun b e => upd_none e) (tabs0.ext fun b o e => ?_) newF upd_same ?_
    · exact (upd_ne (ne_of_none e newF)).trans e
    · exact (upd_ne (ne_of_none e newF)).trans e
    · exact (upd_ne (ne_of_none known newF)).trans known
end
/-- the reading of lambda ..: body -/
def tLm (T : List NTab) (q : Str) (params : Arguments) (scope : Scope) (body : Expr) : TE := fun σ H Q => TabsN T H ∧ ∀ (f c' : Addr) (H1 : Hp), ExtN H H1 → (∀ b, H1 b = Option.none → H b = Option.none) → TabsN T H1 → H f = none → H1 f = some (LamO f ⟨"<lambda>", q, params, [], scope, [], c'⟩ body) → H1 c' = some (CodeO c' q) → Q (.ref f) H1
theorem pe_lam {X : Cx} {T : List NTab} {nm : Nat → Nat → Str} {c P : Addr} {params : Arguments} {body : Expr} {scope : Scope} {pos : Pos} {q : Str} (TB : TabB X.base X.mg c P) (hcode : X.env.code = .ref c)
    (hm : (P, nm) ∈ T) (hn : nm pos.line pos.col = q) (hu : ∀ p ∈ T, p.1 = P → p.2 = nm) (hq : X.env.qual ++ "<lambda>" = q) (hdef : defaultsOf params X.env = ([], [])) (hfree : ∀ y ∈ scope.names, y.2 ≠ .free) :
    PE X (.Lambda params body scope pos) (tLm T q params scope body) := by
  subst hq
  refine ⟨fun pins s σ H Q I h => ?_⟩
  obtain ⟨hT, h⟩ := h
  exact lam_mk I TB hcode hm hn hu hT hdef hfree fun f c' H1 s' I1 eN nn T1 f0 f1 c1 => ⟨.ref f, H1, I1, rfl, h f c' H1 eN nn T1 f0 f1 c1⟩
/-! ### what a lambda promises -/
structure LOk (P : Program) (w : World) (K : PySem.W.Frag) (mg : Str → Option Value) (base : Heap) (CX : CXT) (k : Nat) (f : Addr) (F : NF) (e : Expr) (ps : List Str) (sp : Sp) : Prop where
  len : ∀ vs H Q E, sp vs H Q E → vs.length = ps.length
  run : ∀ (A : Around) (outer : List Env) (s : Shared) (H : Hp) (us : List Value) (vs : List V) (Q : VK) (E : XK), Room k A → Env0 P w K mg base A outer s H → H f = some (LamO f F e) → H F.c = some (CodeO F.c F.qual) →
    Vals vs us → sp vs H Q E → codeAny (model P w) A (.call (.ref f) ⟨us, []⟩) (CR CX outer P w H s Q E) s
section
variable {CX : CXT} {P : Program} {w : World} {K : PySem.W.Frag} {mg : Str → Option Value} {base : Heap} {N ps : List Str} {F : NF} {f : Addr} {e : Expr} {k : Nat} {sp : Sp}
theorem lok_of (S : NScope N ps [] F.scope) (hcl : F.cl = []) (hb : ∀ (pm ctv : Value) (us : List Value), us.length = ps.length → bindArgs (lamFd F e pm ctv) ⟨us, []⟩ = pure (ps.zip us)) (len : ∀ vs H Q E, sp vs H Q E → vs.length = ps.length)
    (hbody : ∀ (A : Around) (outer : List Env) (s : Shared) (H : Hp) (vs : List V) (Q : VK) (E : XK), Room k (A.deeper (envF F f s.heap.objs.size)) → sp vs H Q E →
      ∃ t, PE (ncx CX P w K mg base N F f A outer s H E) e t ∧ t (startF N vs []) H Q) :
    LOk P w K mg base CX (k + 1) f F e ps sp := by
  refine ⟨len, fun A outer s H us vs Q E room env atF atC rel pre => ?_⟩
  have many := len _ _ _ _ pre
  have free : s.heap.NoLimit := env.mod.nolimit.keeps fun b o e => (env.bs b o e).1
  obtain ⟨od, sl, pm, ctv, obj⟩ := lamO_at env.hok atF
  have C : CellsAt F.cl [] [] s.heap H := by
    rw [hcl]
    exact ⟨rfl, fun y c z => (nomatch z), fun x y c z => (nomatch z), fun i y z => (nomatch z)⟩
  refine PySem.W.kla_callFunE room.depth obj rfl S.co S.gen rfl (codeO_at env.hok atC) ?_
  rw [hb pm ctv us (by rw [← rel.length]; exact many)]
  refine wpAny_pure (wpAny_newFunctionEnv S.nocell (fun ⟨n, _⟩ mem => S.par n (List.of_mem_zip mem).1) (fun h₁ names but => ⟨free.fresh _ but, ?_⟩) S.kind)
  show codeAny _ _ (.expr e (envF F f s.heap.objs.size)) _ _
  have kept : ∀ b o, s.heap.get? b = some o → h₁.get? b = some o := fun b o e => but.extBut b o (Nat.ne_of_lt (Heap.lt_size e)) (Heap.get?_push_of_some _ e)
  obtain ⟨t, der, rd⟩ := hbody A outer s H vs Q E (room.deeper _) pre
  have I : Inv (ncx CX P w K mg base N F f A outer s H E) [] (startF N vs []) H { s with heap := h₁, toks := s.toks + (ps.zip us).length } := inv_startN S room.hd env many rel C names kept
  refine PySem.W.kla_codeExpr (wpAny_mono (der.run [] _ (startF N vs []) H Q I rd) (fun v s' rd => ?_) fun e s' rd => rd)
  obtain ⟨w', H', J, rw, q⟩ := rd
  exact (⟨w', H', J.os, J.bare, J.base, J.hok, rw, q⟩ : CE outer P w H s Q v s')
end
/-- its promise, whatever its parameters are called -/
def LamK (P : Program) (w : World) (K : PySem.W.Frag) (mg : Str → Option Value) (base : Heap) (k : Nat) (f : Addr) (F : NF) (e : Expr) (sp : Sp) : Prop := ∃ ps, LOk P w K mg base CX0 k f F e ps sp
/-- f(..), f a name that holds a lambda -/
def tCallL (L : Addr → NF → Expr → Sp → Prop) (i : Nat) (E : XK) (t : TA) : TE := fun σ H Q => ∃ (f : Addr) (F : NF) (b : Expr) (sp : Sp), σ[i]? = some (some (.ref f)) ∧ H f = some (LamO f F b) ∧ L f F b sp ∧
  t σ H fun vs H1 => H1 f = some (LamO f F b) ∧ H1 F.c = some (CodeO F.c F.qual) ∧ sp vs H1 Q E
section
variable {X : Cx} {L : Addr → NF → Expr → Sp → Prop} {i k j : Nat} {x : Str} {E : XK} {t : TA} {e : Expr} {es : List Expr} {p pos : Pos}
theorem lamAt_of {pins : List (Addr × Obj)} {σ : L2.St} {H : Hp} {s : Shared} {f : Addr} {F : NF} {b : Expr} (I : Inv X pins σ H s) (z : H f = some (LamO f F b)) : PySem.W.FnAt f s.heap := by
  obtain ⟨od, sl, pm, ctv, ho⟩ := lamO_at I.hok z
  exact ⟨_, od, _, sl, ho⟩
theorem pe_calll (hL : ∀ f F b sp, L f F b sp → LamK X.prog X.w X.K X.mg X.base k f F b sp) (hr : Room j X.A) (hk : k ≤ j) (hx : Passes CX0 X E) (hN : X.N[i]? = some x) (hv : Vis X.env.scope x) (ha : PA X (e :: es) t)
    (hd : (x == ("__debug__" : Str)) = false := by decide) (hcd : (x == ("__classdict__" : Str)) = false := by decide)
    (he : starEach (e :: es) X.env = (false, eval e X.env) :: starEach es X.env := by rfl) (hpl : (backTo pos (starEach es X.env)).any (·.1) = false := by rfl) :
    PE X (.Call (.Name x p) (e :: es) [] pos) (tCallL L i E t) := by
  refine ⟨fun pins s σ H Q I h => ?_⟩
  obtain ⟨f, F, b, sp, slot, atF, isL, rd⟩ := h
  obtain ⟨ps, LO⟩ := hL f F b sp isL
  refine wpAny_Call_Name_kw (thn ((pe_var (pos := p) hN hv hd hcd).run pins s σ H (fun v H1 => v = .ref f ∧ H1 = H) I ⟨.ref f, slot, rfl, rfl⟩) fun u s1 ⟨v, H1, J1, rel1, both⟩ => ?_)
  obtain ⟨isF, sameH⟩ := both
  subst isF
  rw [sameH] at J1
  obtain rfl : u = Value.ref f := rel1
  refine PySem.W.callWith_F (first := []) (lamAt_of J1 atF) (thn (ha.run pos pins s1 σ H _ J1 rd) fun us s2 ⟨vs, H2, J2, r, h1, h2, q⟩ => ⟨lamAt_of J2 h1, ?_⟩) he hpl
  show wpAny _ _ (call (.ref f) us) _ _ _
  refine wpAny_call (codeAny_mono (LO.run X.A X.stack s2 H2 us vs Q E (hr.mono hk) J2.env0 h1 h2 r q) fun r s' out => ?_)
  cases r with
  | error e => exact hx pins σ H2 s2 e s' J2 out
  | ok fl =>
    cases fl with
    | ret u => exact J2.after out
    | next => exact False.elim out
    | brk => exact False.elim out
    | cont => exact False.elim out
end
/-! ### all but the tables stay -/
theorem ExtN.of_same {H H' : Hp} (s : Same H H') : ExtN H H' := fun b o h _ => s b o h
theorem TabsN.same {T : List NTab} {H H' : Hp} (t : TabsN T H) (s : Same H H') : TabsN T H' := TabsN.ext t s
/-- all but the list at b and the tables is as it was -/
def ButN (b : Addr) (H H' : Hp) : Prop := ∀ a o, a ≠ b → (∀ ps, o ≠ .tbl ps) → H a = some o → H' a = some o
theorem ButN.refl (b : Addr) (H : Hp) : ButN b H H := fun _ _ _ _ h => h
theorem ButN.trans {b : Addr} {H H1 H2 : Hp} (x : ButN b H H1) (y : ButN b H1 H2) : ButN b H H2 := fun a o n t h => y a o n t (x a o n t h)
theorem ButN.of {b : Addr} {H H' : Hp} (x : But b H H') : ButN b H H' := fun a o n _ h => x a o n h
theorem ButN.ofN {b : Addr} {H H' : Hp} (x : ExtN H H') : ButN b H H' := fun a o _ t h => x a o h t
theorem frozen_tbl {o : HO} (h : frozen o) : ∀ ps, o ≠ .tbl ps := fun ps e => by
  rw [e] at h
  exact h
theorem ExtN.fz {H H' : Hp} (x : ExtN H H') : Fz H H' := fun a o f h => x a o h (frozen_tbl f)
theorem TabsN.but {T : List NTab} {b : Addr} {H H' : Hp} (t : TabsN T H) (hb : Box H b) (k : But b H H') : TabsN T H' := by
  obtain ⟨x, y, z, hb, _⟩ := hb
  intro p hp
  obtain ⟨ps, h1, h2, h3⟩ := t p hp
  refine ⟨ps, k _ _ (fun q => ?_) h1, h2, fun pos cv hc => ?_⟩
  · rw [q, hb] at h1
    cases h1
  · obtain ⟨c, e1, e2⟩ := h3 pos cv hc
    refine ⟨c, e1, k _ _ (fun q => ?_) e2⟩
    rw [q, hb] at e2
    unfold CodeO at e2
    cases e2
theorem Box.extN {b : Addr} {H H' : Hp} (x : Box H b) (s : ExtN H H') : Box H' b := by
  obtain ⟨x, y, z, h, i⟩ := x
  exact ⟨x, y, z, s _ _ h (fun _ e => by cases e), i⟩
/-! ### the end -/
/-- the tables of the defs of the top are known and empty -/
def TabsTop (K : PySem.W.Frag) (names : List Str) (h : Heap) : Prop := ∀ x ∈ names, ∀ c P, PySem.W.tabIn K x = some (c, P) → PySem.W.CodeHd h c P ∧ h.get? P = some (PySem.W.tabObj #[])
theorem walk_tabs {l : PySem.W.OpenLaw} {n k : Nat} {q : Program} {loose : List Str} {XP : (Str → Option Value) → Heap → Prop} {YP : World → Heap → Prop} {d : DefRec} {K : Params → PySem.W.Frag} {CX : World → CXT} {x : Str} (names : List Str)
    (most : l.most = some n) (fits : n ≤ sizeLine) (noDef : d.params.defaults = []) (room : Room k callerA) (hrec : names.all (fun y => ((recsOf q).find? fun e => e.name == y).isSome) = true) (frag : ∀ (w : World) (h : Heap), YP w h → (K w.params).In h)
    (F : ∀ (w : World) (mg : Str → Option Value) (fa : Addr) (h : Heap), YP w h → (K w.params).In h → h.Ns mainGlobals mg → mg d.name = some (.ref fa) → TabsTop (K w.params) names h → LawAtS l w (K w.params) (CX w) k n x mg fa h)
    (never : ∀ (w : World) (H : Hp) (s : Shared) (e : Value) (s' : Shared), CX w [] H s (fun _ _ _ => False) e s' → False) :
    PySem.W.WalkO q loose XP YP l.row.toRowW d [] (fun f vs => PySem.call f vs) := by
  refine Att.attach_callB most noDef fun w s₀ s₁ mg mb fa o pm cd doc a vs ns G Y ho hd hcd isLaw hobj hints hlen hbits hg => ?_
  have inK := frag w _ Y
  have tabs : TabsTop (K w.params) names s₁.heap := fun y hy c P ht => by
    have z := List.all_eq_true.mp hrec y hy
    obtain ⟨dL, hdL⟩ := Option.isSome_iff_exists.mp z
    exact PySem.W.tab_of G.T inK hdL ht
  obtain ⟨fd, cs, sp, hT, nT, C, hb, hsp, hF⟩ := F w mg fa _ Y inK G.T.g isLaw tabs
  exact law_callTs inK G.T.g G.T.b G.T.builtins G.T.nolimit hg hT nT C G.T.bmain hobj hints (Nat.le_trans hlen fits) room hF hb (fun H hH hS => hsp H a ns hlen hbits hH hS) fun H e s' => never w H s₁ e s'
end Rs
namespace Rs
open PySem PySem.Spec PyProof.Rows L2 LamX NdefX
/-- the name of the lambdas in the def x -/
def lamQ (x : Str) : Str := x ++ ".<locals>." ++ "<lambda>"
theorem code_tab {K : PySem.W.Frag} {x : Str} {f c P : Addr} {oc : Value} {od : Option Addr} {fd : FuncData} {sl : Array (Option Value)} (a : PySem.W.nsIn K mainGlobals x = some (some (.ref f))) (l : K.lookup f = some ⟨oc, od, .func fd, sl⟩) (t : PySem.W.tabIn K x = some (c, P)) : fd.code = .ref c := by
  unfold PySem.W.tabIn at t
  rw [a] at t
  dsimp only at t
  rw [l] at t
  dsimp only at t
  split at t
  · rename_i c2 hc
    split at t
    · split at t
      · cases t
        exact hc
      · cases t
    · cases t
  · cases t
/-- a def by its body, with what is known of its code object -/
theorem Fun.okC {P : Program} {w : World} {K : PySem.W.Frag} {mg : Str → Option Value} {base : Heap} {x qual : Str} {st : Stmt} {f : Addr} {fd : FuncData} {N ps : List Str} {k : Nat} {sp : Sp} (F : Fun K x qual st f fd) (S : FnScope N ps (defScope st)) (len : ∀ vs H Q E, sp vs H Q E → vs.length = ps.length)
    (hbody : ∀ (cdv : Value), fd.code = cdv → ∀ (A : Around) (outer : List Env) (s : Shared) (H : Hp) (vs : List V) (Q : VK) (E : XK), Room k (A.deeper (envOfC qual (defScope st) s.heap.objs.size f cdv)) → sp vs H Q E →
      ∃ t, PSs (cxOf CX0 P w K mg base N qual (defScope st) f cdv A outer s H E).nox (defBody st) t ∧ t { nx := fun _ H' => Q .non H', rt := Q } (start N vs) H) : FnOk P w K mg base CX0 (k + 1) f fd ps sp := by
  obtain ⟨oc, od, kV, doc, pm, an, cdv, ct, osl, rfl, lk, hcd⟩ := F.ex
  refine fn_of lk hcd S len fun A outer s H vs Q E hr hsp => ?_
  obtain ⟨t, h, q⟩ := hbody cdv rfl A outer s H vs Q E hr hsp
  exact ⟨t, h.nox, q⟩
/-- [e for x in l if t] over a list of ints -/
theorem lsel {K : PySem.W.Frag} {L : Addr} {ns : List Int} {te el : TE} {tt : TT} {sl : Nat} {σ : L2.St} {H : Hp} {Q : VK} (c : Int → Bool) (f : Int → V) (hte : ∀ R : VK, R (.ref L) H → te σ H R) (hL : H L = some (.lst (ns.map V.int))) (ln : ns.length ≤ 3000)
    (htt : ∀ n ∈ ns, ∀ (Hc : Hp) (R : Bool → Hp → Prop), Same H Hc → (∀ Hd, Same Hc Hd → R (c n) Hd) → tt ((wipe σ [sl]).set sl (some (.int n))) Hc R)
    (hel : ∀ n ∈ ns, ∀ (Hc : Hp) (R : VK), Same H Hc → (∀ Hd, Same Hc Hd → R (f n) Hd) → el ((wipe σ [sl]).set sl (some (.int n))) Hc R)
    (k : ∀ D H', H D = none → Same H H' → H' D = some (.lst ((ns.filter c).map f)) → Q (.ref D) H') : tLc (iList K te) (gName sl) tt el [sl] σ H Q := by
  refine hte _ ⟨L, rfl, ⟨_, SqL.of hL⟩, fun D hD => lc_it walk_list (fun i Hc => Hc D = some (.lst (((ns.take i).filter c).map f)) ∧ Same H Hc) ⟨upd_same, same_new hD⟩ (fun i Hc _ hR => hR.2.seq (SqL.of hL)) (fun j x Hc H' hj hR hy => ?_) (fun Hc hR => ?_)⟩
  · obtain ⟨rfl, hx⟩ := hy
    obtain ⟨hDc, sc⟩ := hR
    rw [List.getElem?_map] at hx
    obtain ⟨n, hn, rfl⟩ := Option.map_eq_some_iff.mp hx
    refine ⟨by simp [wipe, List.set_set], htt n (List.mem_of_getElem? hn) _ _ sc fun Hd sd => ?_⟩
    have z : (ns.take (j + 1)).filter c = (ns.take j).filter c ++ (if c n = true then [n] else []) := by
      rw [take_snoc hn, List.filter_append, List.filter_cons, List.filter_nil]
    refine ifB (fun e => ?_) (fun e => ?_)
    · refine hel n (List.mem_of_getElem? hn) _ _ (sc.trans sd) fun He se => ⟨_, se _ _ (sd _ _ hDc), ?_, ?_, same_lst ((sc.trans sd).trans se) hD⟩
      · rw [List.length_map]
        have := List.length_filter_le c (ns.take j)
        rw [List.length_take] at this
        exact szL2 (by omega)
      · rw [upd_same, z, e, if_pos rfl, List.map_append]
        rfl
    · refine ⟨?_, sc.trans sd⟩
      rw [z, e, if_neg Bool.false_ne_true, List.append_nil]
      exact sd _ _ hDc
  · rw [List.length_map, List.take_length] at hR
    exact k D Hc hD hR.2 hR.1
/-- [e for x in t] over a tuple of any things -/
theorem lmapTI {K : PySem.W.Frag} {L : Addr} {xs : List V} {te el : TE} {sl : Nat} {σ : L2.St} {H : Hp} {Q : VK} (f : Nat → V) (hte : ∀ R : VK, (∀ H1, Same H H1 → H1 L = some (.tup xs) → R (.ref L) H1) → te σ H R) (ln : xs.length ≤ 3000)
    (hel : ∀ (j : Nat) (x : V), xs[j]? = some x → ∀ (Hc : Hp) (R : VK), Same H Hc → (∀ Hd, Same Hc Hd → R (f j) Hd) → el ((wipe σ [sl]).set sl (some x)) Hc R)
    (k : ∀ D H', H D = none → Same H H' → H' D = some (.lst ((List.range xs.length).map f)) → Q (.ref D) H') : tLc (iTup K te) (gName sl) tYes el [sl] σ H Q := by
  refine hte _ fun H1 s1 hL => ⟨L, rfl, ⟨_, SqT.of hL⟩, fun D hD => lc_it walk_tup (fun i Hc => Hc D = some (.lst ((List.range i).map f)) ∧ Same H1 Hc) ⟨upd_same, same_new hD⟩ (fun i Hc _ hR => (Fz.of_same hR.2).sqT (SqT.of hL)) (fun j x Hc H' hj hR hy => ?_) (fun Hc hR => k D Hc (s1.free hD) (s1.trans hR.2) hR.1)⟩
  obtain ⟨rfl, hx⟩ := hy
  obtain ⟨hDc, sc⟩ := hR
  refine ⟨by simp [wipe, List.set_set], ?_⟩
  dsimp only [tYes]
  rw [if_pos rfl]
  have lt : j < xs.length := (List.getElem?_eq_some_iff.mp hx).1
  refine hel j x hx _ _ (s1.trans sc) fun Hd sd => ?_
  refine ⟨_, sd _ _ hDc, ?_, ?_, same_lst (sc.trans sd) hD⟩
  · rw [List.length_map, List.length_range]
    exact szL2 (by omega)
  · rw [upd_same, List.range_succ, List.map_append]
    rfl
end Rs
/-! o[i] by an own __getitem__ -/
namespace Rs
open PySem PySem.Spec PyProof.Rows L2
section
variable {X : Cx} {CX : CXT} {C g : Addr} {n : Nat} {sp : Sp} {E : XK} {a b : Expr} {ta tb : TE} {pos : Pos}
def rGetO (C : Addr) (sp : Sp) (E : XK) : R2 := fun x y H Q => ∃ a dx fs, x = .ref a ∧ H a = some (.ins C dx fs) ∧ sp [.ref a, y] H Q E
theorem pe_ixO (M : Meth X.K C "__getitem__" g) (hfn : PySem.W.fnIn X.K g = true) (F : FnR X.prog X.w X.K X.mg X.base CX n g sp) (hr : Room (n + 1) X.A) (hx : Passes CX X E) (ha : PE X a ta) (hb : PE X b tb)
    (hsl : ∀ x i, subscripted b true (.ref x) i = runValue (.builtin "lifetime.subscript" ⟨[.ref x, i], []⟩) := by intro x i; with_unfolding_all rfl) : PE X (.Subscript a b pos) (tOp (rGetO C sp E) ta tb) := by
  refine ⟨fun pins s σ H Q I h => ?_⟩
  refine Subscript_ (binT ha hb I h fun v u s2 x y H2 I2 rx ry q => ?_)
  obtain ⟨z, dx, fs, rfl, hz, q⟩ := q
  cases (show v = Value.ref z from rx)
  obtain ⟨ox, od, J⟩ := ins_at I2 hz
  obtain ⟨m, hF⟩ := I2.fr
  refine PySem.W.sub_K hF I2.ok.mod.kin J M.at_ hfn M.fn ?_ (hsl z u)
  have sb : Sub X n X.A.in1 := Sub.in1 ⟨hr, rfl⟩
  have e0 : Env0 X.prog X.w X.K X.mg X.base X.A.in1 X.stack s2 H2 := by
    have e := I2.env0
    exact ⟨by rw [sb.fr]; exact e.frames, e.mod, e.bs, e.bsz, e.funs, e.frf, e.hok, e.bare⟩
  exact wpAny_call (SlX.run_at (us := [.ref z, u]) (ws := [.ref z, y]) F sb.room e0 hx I2 (.cons rfl (.cons ry .nil)) q)
end
end Rs
/-! len(o) by an own __len__; o.m(e, ..) and o[i] within a try, what they let out is wished for at the caller's slots -/
namespace Rs
open PySem PySem.Spec PyProof.Rows L2
section
variable {X : Cx} {CX : CXT} {C g : Addr} {n : Nat} {sp : Sp} {E : XK}
def rLenO (C : Addr) (sp : Sp) (E : XK) : List V → Hp → VK → Prop := fun xs H Q => ∃ a dx fs, xs = [.ref a] ∧ H a = some (.ins C dx fs) ∧ sp [.ref a] H (fun z H' => ∃ i : Int, z = .int i ∧ 0 ≤ i ∧ i < 2 ^ 63 ∧ Q (.int i) H') E
theorem call_lenO (M : Meth X.K C "__len__" g) (F : FnR X.prog X.w X.K X.mg X.base CX n g sp) (hr : Room (n + 1) X.A) (hx : Passes CX X E) : CallR X (.builtin "len") (rLenO C sp E) := by
  intro pins s σ H xs us Q I r h
  obtain ⟨a, dx, fs, rfl, ha, q⟩ := h
  cases r with
  | cons r1 rr =>
    cases rr
    cases (show _ = Value.ref a from r1)
    obtain ⟨ox, od, J⟩ := ins_at I ha
    have hr1 : Room n X.A.in1 := Room.in1 hr
    obtain ⟨m, hF⟩ := I.fr
    refine PySem.W.len_K hF I.ok.mod.kin J M.at_ M.fn ?_
    refine wpAny_mono (wpAny_call (SlX.run_at (us := [.ref a]) (ws := [.ref a]) F hr1 I.env0.in1 hx I (.cons rfl .nil) q)) (fun w s' z => ?_) fun _ _ x => x
    obtain ⟨z', H', I', rz, i, ei, i0, i1, qz⟩ := z
    subst ei
    obtain ⟨t, rfl⟩ := rz
    exact ⟨⟨i0, i1⟩, .int i, H', I'.tok _, ⟨_, rfl⟩, qz⟩
end
section
variable {X : Cx} {CX : CXT} {C g : Addr} {n : Nat} {sp : Sp} {E : L2.St → XK} {a b : Expr} {ta tb : TE} {pos : Pos}
def tGetS (C : Addr) (sp : Sp) (E : L2.St → XK) (ta tb : TE) : TE := fun σ H Q => ta σ H fun x H1 => tb σ H1 fun y H2 => ∃ a dx fs, x = .ref a ∧ H2 a = some (.ins C dx fs) ∧ sp [.ref a, y] H2 Q (E σ)
theorem pe_ixOS (M : Meth X.K C "__getitem__" g) (hfn : PySem.W.fnIn X.K g = true) (F : FnR X.prog X.w X.K X.mg X.base CX n g sp) (hr : Room (n + 1) X.A) (hx : ∀ σ, PassesAt CX X σ (E σ)) (ha : PE X a ta) (hb : PE X b tb)
    (hsl : ∀ x i, subscripted b true (.ref x) i = runValue (.builtin "lifetime.subscript" ⟨[.ref x, i], []⟩) := by intro x i; with_unfolding_all rfl) : PE X (.Subscript a b pos) (tGetS C sp E ta tb) := by
  refine ⟨fun pins s σ H Q I h => ?_⟩
  refine Subscript_ (binT ha hb I h fun v u s2 x y H2 I2 rx ry q => ?_)
  obtain ⟨z, dx, fs, rfl, hz, q⟩ := q
  cases (show v = Value.ref z from rx)
  obtain ⟨ox, od, J⟩ := ins_at I2 hz
  obtain ⟨m, hF⟩ := I2.fr
  refine PySem.W.sub_K hF I2.ok.mod.kin J M.at_ hfn M.fn ?_ (hsl z u)
  have sb : Sub X n X.A.in1 := Sub.in1 ⟨hr, rfl⟩
  have e0 : Env0 X.prog X.w X.K X.mg X.base X.A.in1 X.stack s2 H2 := by
    have e := I2.env0
    exact ⟨by rw [sb.fr]; exact e.frames, e.mod, e.bs, e.bsz, e.funs, e.frf, e.hok, e.bare⟩
  refine wpAny_call (codeAny_mono (F X.A.in1 X.stack s2 H2 [.ref z, u] [.ref z, y] Q (E σ) sb.room e0 (.cons rfl (.cons ry .nil)) q) fun r s' hq => ?_)
  cases r with
  | error e => exact hx σ pins H2 s2 e s' I2 hq
  | ok fl =>
    cases fl with
    | ret u => exact I2.after hq
    | next => exact False.elim hq
    | brk => exact False.elim hq
    | cont => exact False.elim hq
end
section
variable {X : Cx} {CX : CXT} {k : Nat} {f C : Addr} {fd : FuncData} {ps : List Str} {sp : Sp} {E : L2.St → XK} {m : Str} {pos apos : Pos} {e o : Expr} {es : List Expr} {ta : TE} {t : TA}
def tMethS (C : Addr) (m : Str) (sp : Sp) (E : L2.St → XK) (ta : TE) (t : TA) : TE := fun σ H Q => ta σ H fun x H1 => ∃ a dx fs, x = .ref a ∧ H1 a = some (.ins C dx fs) ∧ fs.lookup m = none ∧ t σ H1 fun vs H2 => sp (x :: vs) H2 Q (E σ)
theorem pe_methT {pl : Sem Bool} (he : PE X o ta) (c : Cls X.K C) (hm : Meth X.K C m f) (F : FnOk X.prog X.w X.K X.mg X.base CX k f fd ps sp) (hr : Room k X.A) (hb : Binds X.K fd ps []) (hx : ∀ σ, PassesAt CX X σ (E σ)) (ha : PA X (e :: es) t)
    (hst : starEach (e :: es) X.env = (false, eval e X.env) :: starEach es X.env := by rfl) (hpl : (backTo pos (starEach es X.env)).any (·.1) = false := by rfl)
    (ht : eval (.Call (.Attribute o m apos) (e :: es) [] pos) X.env = (do
      let ov ← eval o X.env
      standAt apos.atName
      let (f, first) ← holding [ov] (getMethod ov m pl)
      callWith pos f first (backTo pos (starEach (e :: es) X.env)) (backToKw pos (keywordEach [] X.env))) := by rfl) : PE X (.Call (.Attribute o m apos) (e :: es) [] pos) (tMethS C m sp E ta t) := by
  refine ⟨fun pins s σ H Q I h => ?_⟩
  refine PySem.W.methodCall_KW (pl := pl) (thn (he.run pins s σ H _ I h) fun u s1 res => ?_) ht
  obtain ⟨x, H1, I1, rx, a, dx, fs, ex, ea, l, q⟩ := res
  subst ex
  cases (show u = Value.ref a from rx)
  refine getmeth_ok I1 ea c hm l ?_
  refine PySem.W.callWith_K (first := [.ref a]) (h₀ := X.base) I.ok.mod.kin hm.kp (thn (ha.run pos pins s1 σ H1 _ I1 q) fun us s2 res => ?_) hst hpl
  obtain ⟨vs, H2, I2, r, q2⟩ := res
  exact ⟨I2.kIn, run_fnS (us := .ref a :: us) (vs := .ref a :: vs) F hr hb (hx σ) I2 (.cons rfl r) q2⟩
end
end Rs
/-! An own class over IndexError whose __init__ is walked as a def and sets one field: OexC of HandS.ExcInit speaks of ValueError. -/
namespace Rs
open PySem PySem.Spec PyProof.Rows L2
/-- IndexError's line of classes -/
abbrev ieTail : List Value := [.type "IndexError", .type "LookupError", .type "Exception", .type "BaseException", .type "object"]
section
open PySem.Builtin PySem.Builtin.ObjectAttr PySem.W
theorem ie_passes (self : Value) (C : Addr) : refuseLoop self "__setattr__" (.ref C :: ieTail) = pure () := by
  rw [refuseLoop_ref]
  kernel_rfl
variable {prog : Program} {w : World} {A : Around} {R : Result → Shared → Prop} {hp : Heap} {g : Array GenState} {dr : Drawn} {tn : Nat} {os : OsState}
/-- self.name = v where self has no dict as yet -/
theorem osa_ie {K : Frag} {name : Str} {tk : Tok} {v : Value} {x C : Addr} {fv : Array Value} {cd : ClassData} (X : K.In hp) (there : hp.get? x = some { cls := .ref C, data := .fields fv }) (is : clsIn K C = some cd) (line : cd.mro = .ref C :: ieTail) (has : cd.hasDict = true)
    (free : findIn K (.ref C) name = some none)
    (go : ∀ h2 t2 dx, (∀ b o, b ≠ x → hp.get? b = some o → h2.get? b = some o) → hp.objs.size ≤ dx → dx ≠ x → h2.get? x = some { cls := .ref C, dict := some dx, data := .fields fv } → h2.Ns1 dx (fun y => if y = name then some v else none) →
      R (.ok (.ret .none)) ⟨h2, g, dr, t2, os⟩) : codeAny (model prog w) A (.call (.builtin "object.__setattr__") ⟨[.ref x, .str name tk, v], []⟩) R ⟨hp, g, dr, tn, os⟩ := by
  have J : InstAt hp x { cls := .ref C, data := .fields fv } C none := ⟨there, rfl, rfl, trivial⟩
  have xs : x ≠ hp.objs.size := Nat.ne_of_lt (Heap.lt_size there)
  have full : cd.mro.isEmpty = false := by rw [line]; rfl
  have obj : cd.mro.contains (.type "object") = true := by rw [line, List.contains_cons]; exact (Bool.or_eq_true _ _).mpr (.inr (by decide +kernel))
  have inst : Looks (model prog w) hp (isInstance (.ref x) (.type "object")) true :=
    J.type.andThen (looks_mroIn X (by unfold mroIn; rw [is, Option.bind_some, if_neg (by rw [full]; decide), obj]))
  refine codeAny_call_builtin PySem.F.store_object.slot.plain PySem.F.store_object.entry
    (@check_slot (model prog w) _ _ ⟨hp, g, dr, tn, os⟩ "object.__setattr__" "object" "__setattr__" (.ref x) [.str name tk, v] [] _ PySem.F.store_object.kind PySem.F.store_object.split inst (PySem.F.store_object.args (.ref x) (.str name tk) v) ?_)
  have mro : Looks (model prog w) hp (mroOf (.ref C)) cd.mro := (looks_clsIn X is).andThen .now
  have nobody : Looks (model prog w) hp (storeTaker? none) none := .now
  have data : Looks (model prog w) hp (classData C) cd := looks_clsIn X is
  rw [osa_eq, refuse_eq]
  refine wpAny_bind (wpAny_bind (J.type.at (wpAny_bind (mro.at ?_))))
  rw [line, ie_passes]
  refine wpAny_pure (wpAny_bind (J.type.at (wpAny_bind ((looks_findIn X free).at (wpAny_bind (nobody.at ?_))))))
  show wpAny _ _ (storeInOwnDict (.ref x) (.ref C) (.str name tk) name v false) _ _ _
  clear full obj mro line
  obtain ⟨nm, bs, mro, ns, qn, hd, sn, sb, ab, col, del⟩ := cd
  dsimp only at has
  subst has
  unfold storeInOwnDict
  unfold ownDictForStores
  repeat (first | with_reducible refine PySem.HandSPX.store_in_new ?_ ?_ | (with_reducible refine wpAny_loadPart_at there ?_) | (with_reducible refine data.at ?_) | wp_step)
  · exact ⟨_, #[], _, (Heap.get?_update_ne _ _ _ _ xs.symm).trans (Heap.get?_push_at rfl rfl), rfl, (fun e he => by simp at he), fun _ => rfl⟩
  · intro h2 t2 ns1 sb
    have there2 : (hp.push { cls := .type "dict", data := .dict #[] }).get? x = some { cls := .ref C, data := .fields fv } := Heap.get?_push_of_some _ there
    refine go h2 t2 hp.objs.size (fun b o nb ho => ?_) (Nat.le_refl _) xs.symm ((sb.2 x xs).trans (Heap.get?_update_self _ there2 rfl)) ns1
    exact (sb.2 b (Nat.ne_of_lt (Heap.lt_size ho))).trans ((Heap.get?_update_ne _ _ _ _ nb).trans (Heap.get?_push_of_some _ ho))
end
/-- what the written part says of such a class -/
structure OexI (K : PySem.W.Frag) (C : Addr) : Prop where
  cls : ∃ nm q N bs sn sub ab col dd k0 k1 k2 k3 k5, K.lookup C = some (excClassObj nm q C N bs ieTail true sn sub ab col dd k0 k1 k2 k3 k5 "IndexError.__new__")
  sa : PySem.W.findIn K (.ref C) "__setattr__" = some (some (.builtin "object.__setattr__"))
  ex : PySem.W.subIn K (.ref C) (.type "BaseException") = some true
  ty : PySem.W.typeIn K (.ref C) = some (.type "type")
  kp : PySem.W.keepIn K (.ref C) = true
section
variable {X : Cx} {pins : List (Addr × Obj)} {σ : L2.St} {H : Hp} {s : Shared} {a C : Addr} {f : Str} {y : V} {u : Value} {E : Value → Shared → Prop} {A : Around} {Q : Unit → Shared → Prop}
theorem ost_ie (T : OexI X.K C) (I : Inv X pins σ H s) (e : H a = some (exo a C none)) (free : PySem.W.findIn X.K (.ref C) f = some none) (ry : RelV y u)
    (go : ∀ dx s2, H dx = none → dx ≠ a → Inv X pins σ (upd (upd H dx (exd dx [(f, y)])) a (exo a C (some dx))) s2 → Q () s2) : wpAny (model X.prog X.w) A (setAttr (.ref a) f u) Q E s := by
  obtain ⟨nm, q, N, bs, sn, sub, ab, col, dd, k0, k1, k2, k3, k5, hC⟩ := T.cls
  have known : PySem.W.clsIn X.K C = some { name := nm, bases := bs, mro := .ref C :: ieTail, ns := N, qualname := q, hasDict := true, slotNames := sn, subclasses := sub, abstract := ab, collection := col, hasDel := false } := by
    unfold PySem.W.clsIn
    rw [hC]
  obtain ⟨t1, ho⟩ := exo_at I.hok e
  obtain ⟨hp, g, d, t, os⟩ := s
  refine PySem.W.set_plain I.kIn (ox := { cls := .ref C, dict := none, data := .fields #[.ref t1, .none, .none, .none, .bool false, .none] }) (od := none) ⟨ho, rfl, rfl, trivial⟩ T.sa
    (osa_ie I.kIn ho known rfl rfl free fun h2 tk2 dx kept new ne hx ns => ?_)
  have none2 : H dx = none := I.hok.fresh new
  have old : ∀ {b : Addr} {o : Obj}, hp.get? b = some o → b ≠ dx := fun {b o} z => Nat.ne_of_lt (Nat.lt_of_lt_of_le (Heap.lt_size z) new)
  have nota : ∀ {b : Addr}, H b = none → b ≠ a := fun {b} n z => by rw [z, e] at n; cases n
  have far : ∀ {b : Addr} {o : HO}, H b = some o → (∀ r, exo a C r ≠ o) → upd (upd H dx (exd dx [(f, y)])) a (exo a C (some dx)) b = some o := fun {b o} z n => by
    rw [upd_ne (fun w => by rw [w, e] at z; exact n none (Option.some.inj z)), upd_ne (ne_of_none z none2)]
    exact z
  have U : Un X.fs [] H (upd (upd H dx (exd dx [(f, y)])) a (exo a C (some dx))) hp h2 :=
    { keep := fun b o z n _ _ => kept b o (nota n) z
      slot := fun b o z n _ _ => ⟨o.slots, kept b o (nota n) z⟩
      free := fun b o z n _ => by rw [upd_ne (nota n), upd_ne (old z)]; exact n
      there := fun b o z _ => by
        by_cases hb : b = a
        · subst hb
          exact ⟨_, hx⟩
        · exact ⟨o, kept b o hb z⟩
      tups := fun b xs z => far z fun r => exo_tup
      frzs := fun b o v z => by
        rw [upd_ne (at_ne e z exo_frz), upd_ne (ne_of_none z none2)]
        exact z
      tbls := fun b ps z => ⟨#[], by rw [upd_ne (at_ne e z exo_tbl), upd_ne (ne_of_none z none2), z]; simp⟩ }
  refine go dx _ none2 ne (I.un (t' := tk2) U fun b o z => ?_)
  by_cases hb : b = a
  · subst hb
    rw [upd_same] at z
    cases z
    exact exo_ok hx
  rw [upd_ne hb] at z
  by_cases hd : b = dx
  · subst hd
    rw [upd_same] at z
    cases z
    exact exd_ok ns (relO_put (fs := []) ry fun _ => True.intro)
  rw [upd_ne hd] at z
  have way : ∀ {c : Addr} {o2 : HO}, H c = some o2 → c ≠ a → upd (upd H dx (exd dx [(f, y)])) a (exo a C (some dx)) c = some o2 := fun {c o2} hc nc => by
    rw [upd_ne nc, upd_ne (ne_of_none hc none2)]
    exact hc
  refine (I.hok b o z).stay (fun c v hc z2 => kept c v ?_ z2) (fun c hc => way hc (at_ne e hc exo_own)) fun c xs hc => way hc (at_ne e hc exo_tup)
  rcases hc with hc | hc
  · exact hc ▸ hb
  · exact at_ne e hc exo_own
end
section
variable {X : Cx} {o e : Expr} {es : List Expr} {to te : TE} {ta : TA} {f : Str} {p p' pos : Pos}
/-- self.f = e, the first field -/
def tOsi (K : PySem.W.Frag) (f : Str) (to te : TE) : TS := fun D σ H => te σ H fun y H1 => to σ H1 fun x H2 => ∃ a C : Addr, x = .ref a ∧ OexI K C ∧ PySem.W.findIn K (.ref C) f = some none ∧
  H2 a = some (exo a C none) ∧ ∀ dx, H2 dx = none → dx ≠ a → D.nx σ (upd (upd H2 dx (exd dx [(f, y)])) a (exo a C (some dx)))
theorem ps_osi (ho : PE X o to) (he : PE X e te) (hs : swapsWith e (some (.Attribute o f p')) pos.line X.env = pure false := by rfl) : PS X (.Assign [.Attribute o f p'] e pos) (tOsi X.K f to te) := by
  refine ⟨fun pins s σ H D I h => plainObj_wpAny_Assign_Attribute (thn (he.run pins s σ H _ I h) fun v s1 r1 => ?_) hs⟩
  obtain ⟨y, H1, I1, ry, q1⟩ := r1
  refine thn (ho.run pins s1 σ H1 _ I1 q1) fun u s2 r2 => ?_
  obtain ⟨x, H2, I2, rx, a, C, ex, T, free, ea, q⟩ := r2
  subst ex
  cases (show u = Value.ref a from rx)
  exact ost_ie T I2 ea free ry fun dx s3 n ne J => ⟨σ, _, J, q dx n ne⟩
/-- C(e, ..), C's own __init__ keeping sp -/
theorem pmk_oei {CX : CXT} {x : Str} {C fI : Addr} {k : Nat} {fd : FuncData} {ps : List Str} {sp : Sp} (T : OexI X.K C) (iC : PySem.W.findIn X.K (.ref C) "__init__" = some (some (.ref fI))) (tI : PySem.W.typeIn X.K (.ref fI) = some (.type "function"))
    (F : FnOk X.prog X.w X.K X.mg X.base CX k fI fd ps sp) (hr : Room (k + 1) X.A) (hb : Binds X.K fd ps []) (hx : Passes CX X (fun _ _ _ => False)) (hg : Gl X x) (hm : X.mg x = some (.ref C)) (ha : PA X (e :: es) ta)
    (hdb : (x == ("__debug__" : Str)) = false := by decide) (he : starEach (e :: es) X.env = (false, eval e X.env) :: starEach es X.env := by rfl) (hpl : (backTo pos (starEach es X.env)).any (·.1) = false := by rfl) : PMk X (.Call (.Name x p) (e :: es) [] pos) (tMkO C sp [] ta) := by
  intro pins s σ H Q I h
  obtain ⟨nm, q, N, bs, sn, sub, ab, col, dd, k0, k1, k2, k3, k5, hC⟩ := T.cls
  refine wpAny_Call_Name_kw (ld_glob I hg hm (PySem.W.callWith_K (h₀ := X.base) I.ok.mod.kin T.kp (thn (ha.run pos pins s σ H _ I h) fun us s1 res => ?_) he hpl) hdb)
  obtain ⟨vs, H1, I1, r1, hz, q1⟩ := res
  refine ⟨I1.kIn, ?_⟩
  show wpAny _ _ (call (.ref C) us) _ _ _
  obtain ⟨hp, g, dr, tk, os⟩ := s1
  have up : hp.objs.size ≤ hp.objs.size + 1 := Nat.le_succ _
  have want := q1 (hp.objs.size + 1) (I1.hok.fresh up)
  have kept : ∀ b o, hp.get? b = some o → ((hp.push (PySem.W.kdv_tup us)).push (PySem.HandSPX.excO C hp.objs.size)).get? b = some o := fun b o z => Heap.get?_push_of_some _ (Heap.get?_push_of_some _ z)
  have at1 : ((hp.push (PySem.W.kdv_tup us)).push (PySem.HandSPX.excO C hp.objs.size)).get? (hp.objs.size + 1) = some (PySem.HandSPX.excO C hp.objs.size) := by heap_get
  have J : Inv X pins σ (upd H1 (hp.objs.size + 1) (exo (hp.objs.size + 1) C none)) ⟨(hp.push (PySem.W.kdv_tup us)).push (PySem.HandSPX.excO C hp.objs.size), g, dr, tk, os⟩ := Inv.laid (t' := tk) I1 kept up (exo_ok at1)
  have rel : Vals (V.ref (hp.objs.size + 1) :: (vs ++ [])) (Value.ref (hp.objs.size + 1) :: us) := .cons rfl (by rw [List.append_nil]; exact r1)
  have n1 : (Value.ref (hp.objs.size + 1) :: us).length = ps.length := by rw [← rel.length]; exact F.len _ _ _ _ want
  have bd := hb _ (Value.ref (hp.objs.size + 1) :: us) J.kIn (by rw [List.append_nil]; exact n1)
  rw [List.append_nil] at bd
  have few : us.length ≤ sizeLine := by have e1 := r1.length; have e2 := sizeLine_eq; omega
  refine wpAny_call (PySem.HandSPX.call_own PySem.F.excBase_IndexError (fun _ => rfl) (I1.kIn _ _ hC) (PySem.W.looks_findIn I1.kIn iC) (fun self => PySem.W.bind_fn I1.kIn self tI) few
    (codeAny_mono (F.run _ X.stack _ _ ⟨Value.ref (hp.objs.size + 1) :: us, []⟩ _ _ _ (fun _ _ _ => False) (hr.make C us []) (J.env0.make C us []) bd rel want) fun r s2 got => ?_))
  cases r with
  | error er => exact hx pins σ _ _ er s2 J got
  | ok fl =>
    cases fl with
    | next => exact got.elim
    | brk => exact got.elim
    | cont => exact got.elim
    | ret u =>
      obtain ⟨v, H2, os2, bare2, un2, ok2, rv, ev, d, fs, ea, ed, hd1, q2⟩ := got
      subst ev
      obtain ⟨h2, g2, d2, t2, os3⟩ := s2
      exact ⟨rv, mk_end (raises_own T.ex T.ty) I1 up kept un2 ok2 os2 bare2 ea ed hd1 q2⟩
end
end Rs
/-! cls(e, ..) where cls is a local name that holds a class of the text -/
namespace Rs
open PySem PySem.Spec PyProof.Rows L2
section
variable {X : Cx} {CX : CXT} {k i : Nat} {f C : Addr} {fd : FuncData} {ps : List Str} {sp : Sp} {E : XK} {ds : List Value} {dvs : List V} {x : Str} {e : Expr} {es : List Expr} {t : TA} {p pos : Pos}
def tMakeV (i : Nat) (C : Addr) (sp : Sp) (dvs : List V) (E : XK) (t : TA) : TE := fun σ H Q => σ[i]? = some (some (.ref C)) ∧ tMake C sp dvs E t σ H Q
theorem pe_makeV (M : Mk X.K C f) (F : FnOk X.prog X.w X.K X.mg X.base CX k f fd ps sp) (hr : Room (k + 1) X.A) (hN : X.N[i]? = some x) (hv : Vis X.env.scope x) (hb : Binds X.K fd ps ds) (hd : Vals dvs ds) (hx : Passes CX X E) (ha : PA X (e :: es) t)
    (hdb : (x == ("__debug__" : Str)) = false := by decide) (hcd : (x == ("__classdict__" : Str)) = false := by decide) (he : starEach (e :: es) X.env = (false, eval e X.env) :: starEach es X.env := by rfl) (hpl : (backTo pos (starEach es X.env)).any (·.1) = false := by rfl) :
    PE X (.Call (.Name x p) (e :: es) [] pos) (tMakeV i C sp dvs E t) := by
  refine ⟨fun pins s σ H Q I h => ?_⟩
  have name := (pe_var (pos := p) (i := i) hN hv hdb hcd).run pins s σ H (fun v H1 => v = .ref C ∧ H1 = H) I ⟨.ref C, h.1, rfl, rfl⟩
  refine wpAny_Call_Name_kw (thn name fun u s1 res => ?_)
  obtain ⟨v, H1, I1, r1, ev, eH⟩ := res
  subst ev eH
  cases r1
  refine PySem.W.callWith_K (h₀ := X.base) I.ok.mod.kin M.kp (thn (ha.run pos pins s1 σ _ _ I1 h.2) fun us s2 got => ?_) he hpl
  obtain ⟨vs, H2, I2, r, q⟩ := got
  exact ⟨I2.kIn, run_make M F hr hb hd hx I2 r q⟩
theorem pe_makeV0 (M : Mk X.K C f) (F : FnOk X.prog X.w X.K X.mg X.base CX k f fd ps sp) (hr : Room (k + 1) X.A) (hN : X.N[i]? = some x) (hv : Vis X.env.scope x) (hb : Binds X.K fd ps ds) (hd : Vals dvs ds) (hx : Passes CX X E)
    (hdb : (x == ("__debug__" : Str)) = false := by decide) (hcd : (x == ("__classdict__" : Str)) = false := by decide) : PE X (.Call (.Name x p) [] [] pos) (tMakeV i C sp dvs E tNil) := by
  refine ⟨fun pins s σ H Q I h => ?_⟩
  have name := (pe_var (pos := p) (i := i) hN hv hdb hcd).run pins s σ H (fun v H1 => v = .ref C ∧ H1 = H) I ⟨.ref C, h.1, rfl, rfl⟩
  refine wpAny_Call_Name_kw (thn name fun u s1 res => ?_)
  obtain ⟨v, H1, I1, r1, ev, eH⟩ := res
  subst ev eH
  cases r1
  exact PySem.W.callWith_K0 I1.kIn M.kp (run_make (us := []) M F hr hb hd hx I1 .nil h.2)
end
end Rs
/-! a, b, .. = l, l a list (the kit's pg_tup speaks of tuples) -/
namespace Rs
open PySem PySem.Spec PyProof.Rows L2
section
variable {prog : Program} {w : World} {A : Around} {E : Value → Shared → Prop}
/-- n things drawn from a list's iterator -/
theorem draws_list {it l : Addr} {items : Array Value} (ne : l ≠ it) : ∀ (n i : Nat) (s : Shared) (Q : List Value → Shared → Prop), s.heap.IsListIter it l i → s.heap.IsList l items → i + n ≤ items.size →
    (∀ h2, h2.IsListIter it l (i + n) → Heap.SameBut it s.heap h2 → Q ((items.toList.drop i).take n) { s with heap := h2 }) → wpAny (model prog w) A (draw (.ref it) n) Q E s
  | 0, i, s, Q, at1, _, _, go => by
    show wpAny _ _ (pure []) Q E s
    refine wpAny_pure ?_
    simpa using go s.heap at1 (Heap.SameBut.refl ..)
  | n + 1, i, s, Q, at1, il, few, go => by
    have lt : i < items.size := by omega
    have one : items[i]? = some items[i] := by simp [lt]
    show wpAny _ _ (pyNext (.ref it) >>= _) Q E s
    refine wpAny_bind (wpAny_pyNext_list_item at1 il one fun h1 at2 s1 => wpAny_bind (wpAny_holding ?_))
    have il2 : h1.IsList l items := by
      obtain ⟨o, ho, hc, k, hd⟩ := id il
      exact ⟨o, (s1.2 l ne).trans ho, hc, k, hd⟩
    refine draws_list ne n (i + 1) _ _ at2 il2 (by omega) fun h2 at3 s2 => wpAny_pure ?_
    have got := go h2 (by rw [← Nat.add_assoc, Nat.add_right_comm]; exact at3) (s1.trans s2)
    have cut : items.toList.drop i = items[i] :: items.toList.drop (i + 1) := by simp [List.drop_eq_getElem_cons, lt]
    rw [cut, List.take_succ_cons] at got
    exact got
theorem unpack_list {l : Addr} {items : Array Value} {ts : List (Bool × (Value → Sem Unit))} {s : Shared} {Q : Unit → Shared → Prop} (calm : A.handled = none) (il : s.heap.IsList l items) (same : ts.length = items.size) (plain : ts.findIdx? (·.1) = none)
    (go : ∀ h2, Heap.ExtBut s.heap.objs.size s.heap h2 → wpAny (model prog w) A (assignInOrder (ts.map (·.2)) items.toList) Q E { s with heap := h2 }) : wpAny (model prog w) A (unpack (.ref l) ts) Q E s := by
  have ne : l ≠ s.heap.objs.size := by
    obtain ⟨o, ho, _⟩ := id il
    exact Nat.ne_of_lt (Heap.lt_size ho)
  unfold unpack
  rw [same, plain]
  refine wpAny_bind (wpAny_holding ?_)
  unfold unpackItems
  refine wpAny_bind ?_
  unfold notIterableAtAll
  refine wpAny_bind (wpAny_specialOf il.typeIs PySem.F.slot_list_iter.lookup (wpAny_pure ?_))
  simp only [Bool.false_eq_true, if_false]
  refine wpAny_bind (wpAny_holding (wpAny_pyIter_list il ?_))
  have il1 : (s.heap.push { cls := .type "list_iterator", data := .fields #[.ref l, .int 0 0] }).IsList l items := by
    obtain ⟨o, ho, hc, k, hd⟩ := id il
    exact ⟨o, Heap.get?_push_of_some _ ho, hc, k, hd⟩
  have at0 : (s.heap.push { cls := .type "list_iterator", data := .fields #[.ref l, .int 0 0] }).IsListIter s.heap.objs.size l 0 := ⟨_, Heap.get?_push_size _ rfl, rfl, rfl⟩
  refine wpAny_bind (wpAny_holding (draws_list ne items.size 0 _ _ at0 il1 (by omega) fun h1 at1 s1 => ?_))
  have all : List.take items.size (List.drop 0 items.toList) = items.toList := by
    rw [List.drop_zero]
    exact List.take_of_length_le (by simp)
  rw [all, if_neg (by simp)]
  have il2 : h1.IsList l items := by
    obtain ⟨o, ho, hc, k, hd⟩ := id il1
    exact ⟨o, (s1.2 l ne).trans ho, hc, k, hd⟩
  refine wpAny_bind (wpAny_holding (wpAny_pyNext_list_end calm at1 il2 (by simp) fun h2 x2 => ?_))
  simp only [Option.isSome_none, Bool.false_eq_true, if_false]
  exact wpAny_pure (go h2 fun b o hb z => x2 b o hb (s1.extBut b o hb (Heap.get?_push_of_some _ z)))
end
section
variable {X : Cx} {pos : Pos}
def gTupL (K : PySem.W.Frag) (n : Nat) (t : TGs) : TG := fun v σ H Q => ∃ a xs, v = .ref a ∧ SqL K H a xs ∧ xs.length = n ∧ t xs σ H Q
theorem pg_tupL {es : List Expr} {k : Nat} {t : TGs} {n : Nat} (calm : X.calm = true) (h : PGs X es t) (hn : (assignEach es X.env).length = n := by rfl) (hst : (assignEach es X.env).findIdx? (·.1) = none := by rfl) : PG X (.Tuple es k pos) (gTupL X.K n t) := by
  refine ⟨fun pins s σ H v u Q I r hw => ?_⟩
  obtain ⟨a, xs, e1, hq, hl, hw⟩ := hw
  subst e1
  cases r
  obtain ⟨its, rv, pl, hz⟩ := I.list hq
  rw [assign_Tuple]
  refine wpAny_bind (wpAny_standAt (unpack_list (I.ok.hd calm) pl.isList (by rw [hn, ← hl, rv.length]; simp) hst fun h2 x2 => ?_))
  have J : Inv X pins σ H { s with heap := h2 } := I.kept (t' := s.toks) fun b o z => x2 b o (Nat.ne_of_lt (Heap.lt_size z)) z
  exact h.run pins _ σ H xs _ Q J (by simpa using rv) hw
end
end Rs
/-! o(e, ..) by an own __call__ -/
namespace Rs
open PySem PySem.Spec PyProof.Rows L2
theorem callWith_ins {M : Model} {A : Around} {E : Value → Shared → Prop} {s : Shared} {pos : Pos} {x C : Addr} {env : Env} {e : Expr} {es : List Expr} {Q : Value → Shared → Prop}
    (run : wpAny M A (spliced (backTo pos (starEach (e :: es) env))) (fun vs s1 => (∃ ox od, PySem.W.InstAt s1.heap x ox C od ∧ ox.data = .plain) ∧ wpAny M A (call (.ref x) ([] ++ vs)) Q E s1) E s)
    (he : starEach (e :: es) env = (false, eval e env) :: starEach es env) (hp : (backTo pos (starEach es env)).any (·.1) = false) : wpAny M A (callWith pos (.ref x) [] (backTo pos (starEach (e :: es) env)) []) Q E s := by
  rw [he] at run ⊢
  have flat : ((backTo pos ((false, eval e env) :: starEach es env)).any (·.1) || ([] : List (Option Str × Sem Value)).any (·.1.isNone)) = false := by
    show ((false || (backTo pos (starEach es env)).any (·.1)) || false) = false
    rw [hp]
    rfl
  unfold callWith
  have args : wpAny M A (evalArgs (.ref x) true (backTo pos ((false, eval e env) :: starEach es env)) []) (fun ar s1 => (∃ ox od, PySem.W.InstAt s1.heap x ox C od ∧ ox.data = .plain) ∧ wpAny M A (call (.ref x) ([] ++ ar.pos) ar.kw) Q E s1) E s := Calls.evalArgs_plain run
  refine wpAny_bind (wpAny_holding (wpAny_mono args (fun ar s1 both => ?_) fun _ _ z => z))
  obtain ⟨⟨ox, od, J, pl⟩, go⟩ := both
  refine wpAny_bind (wpAny_standAt ?_)
  have keep := PySem.W.kco_keeper (M := M) J pl
  simp only [flat]
  refine wpAny_bind (keep.here ?_)
  exact wpAny_bind (wpAny_mono (wpAny_operateT go) (fun r s2 fin => wpAny_bind (wpAny_holding (wpAny_point (wpAny_pure fin)))) fun _ _ z => z)
section
variable {X : Cx} {CX : CXT} {C g : Addr} {n : Nat} {sp : Sp} {E : XK}
def tCallO (C : Addr) (sp : Sp) (E : XK) (tf : TE) (t : TA) : TE := fun σ H Q => tf σ H fun x H1 => ∃ a dx fs, x = .ref a ∧ H1 a = some (.ins C dx fs) ∧ t σ H1 fun vs H2 => (∃ dx fs, H2 a = some (.ins C dx fs)) ∧ sp (.ref a :: vs) H2 Q E
theorem pe_callO {f e : Expr} {es : List Expr} {tf : TE} {t : TA} {pos : Pos} (hf : PE X f tf) (M : Meth X.K C "__call__" g) (hfn : PySem.W.fnIn X.K g = true) (F : FnR X.prog X.w X.K X.mg X.base CX n g sp) (hr : Room n X.A) (hx : Passes CX X E) (ha : PA X (e :: es) t)
    (hc : eval (.Call f (e :: es) [] pos) X.env = (do callWith pos (← eval f X.env) [] (backTo pos (starEach (e :: es) X.env)) (backToKw pos (keywordEach [] X.env))) := by rfl)
    (he : starEach (e :: es) X.env = (false, eval e X.env) :: starEach es X.env := by rfl) (hp : (backTo pos (starEach es X.env)).any (·.1) = false := by rfl) : PE X (.Call f (e :: es) [] pos) (tCallO C sp E tf t) := by
  refine ⟨fun pins s σ H Q I h => Call_ (thn (hf.run pins s σ H _ I h) fun v s1 hv => ?_) hc⟩
  obtain ⟨x, H1, I1, r1, a, dx, fs, rfl, hi, h⟩ := hv
  cases (show v = Value.ref a from r1)
  refine callWith_ins (C := C) (thn (ha.run pos pins s1 σ H1 _ I1 h) fun us s2 hu => ?_) he hp
  obtain ⟨vs, H2, I2, rr, ⟨dx2, fs2, hi2⟩, q⟩ := hu
  obtain ⟨od2, J2⟩ := ins_obj I2 hi2
  exact ⟨⟨_, _, J2, rfl⟩, wpAny_call (PySem.W.kco_code I2.kIn J2 rfl M.at_ M.fn hfn (run_fnR (us := .ref a :: us) (vs := .ref a :: vs) F hr hx I2 (.cons rfl rr) q))⟩
end
end Rs
/-! a[i] op= p, where a is a list and its item an instance whose class has op but no in-place op. -/
namespace Rs
open PySem PySem.Spec PyProof.Rows L2
/-- the class's chain is itself and object -/
def mro2 (K : PySem.W.Frag) (C : Addr) : Bool := (PySem.W.clsIn K C).any fun cd => cd.mro == [.ref C, .type "object"]
theorem fillsI_none {K : PySem.W.Frag} {M : Model} {C : Addr} {h : Heap} {nm : String} {add : Bool} (X : K.In h) (hm : mro2 K C = true) (hs : PySem.W.findIn K (.ref C) (dunderI nm) = some none) (ho : PySem.W.findIn K (.type "object") (dunderI nm) = some none) : PySem.W.Looks M h (fillsInplaceSlot (.ref C) nm add) false := by
  intro A Q E s k q
  obtain ⟨cd, hc, hm⟩ := PySem.W.any_some hm
  have hm := beq_iff_eq.mp hm
  unfold fillsInplaceSlot
  dsimp only
  refine wpAny_bind ((PySem.W.looks_clsIn X hc).andThen (f := fun cd => pure cd.mro) .now A _ E s k ?_)
  rw [hm, List.anyM_cons]
  refine wpAny_bind (wpAny_bind (PySem.W.looks_findIn X hs A _ E s k ?_))
  dsimp only
  refine wpAny_pure ?_
  try dsimp only
  rw [List.anyM_cons]
  refine wpAny_bind (wpAny_bind (PySem.W.looks_findIn X ho A _ E s k ?_))
  dsimp only
  refine wpAny_pure ?_
  try dsimp only
  rw [List.anyM_nil]
  exact wpAny_pure q
section
variable {prog : Program} {w : World} {A : Around} {E : Value → Shared → Prop} {s : Shared} {K : PySem.W.Frag} {x C L f : Addr} {h₀ : Heap} {m : Str → Option Value} {ox : Obj} {od : Option Obj}
theorem inplace_K {op : Operator} {b : Value} {Q : Value → Shared → Prop} (F : Fr h₀ L s.heap m) (X₀ : K.In h₀) (I : PySem.W.InstAt s.heap x ox C od) (tyB : PySem.W.Looks (model prog w) s.heap (typeOf b) (.ref C)) (hc : PySem.W.selfFirst K C = true)
    (chain : mro2 K C = true) (hi : PySem.W.findIn K (.ref C) (dunderI op.info.2) = some none) (ho : PySem.W.findIn K (.type "object") (dunderI op.info.2) = some none)
    (meth : PySem.W.findIn K (.ref C) (PySem.dunder op.info.2) = some (some (.ref f))) (isF : PySem.W.isFn K (.ref f) = true)
    (h : wpAny (model prog w) A (call (.ref f) [.ref x, b]) (PySem.W.CmpBack Q) E s) : wpAny (model prog w) A (inplaceOp op (.ref x) b) Q E s := by
  have X := X₀.keeps F.keep
  obtain ⟨cd, isCd, first⟩ := PySem.W.any_some hc
  obtain ⟨more, first⟩ : ∃ more, cd.mro = .ref C :: more := by
    cases q : cd.mro with
    | nil => rw [q] at first; cases first
    | cons a r => rw [q] at first; exact ⟨r, by rw [List.head?_cons] at first; cases (beq_iff_eq.mp first); rfl⟩
  unfold inplaceOp
  refine wpAny_holding (wpAny_bind (I.type.here (wpAny_bind ((fillsI_none X chain hi ho).here ?_))))
  simp only [Bool.false_eq_true, if_false]
  refine wpAny_bind ?_
  unfold binaryOp1
  refine wpAny_bind (I.type.here (wpAny_bind (tyB.here (wpAny_bind ((PySem.W.fills_K X isCd first meth).here ?_)))))
  simp only [beq_self_eq_true, if_true]
  refine wpAny_bind (wpAny_pure ?_)
  simp only [Bool.and_false, Bool.false_eq_true, if_false, Bool.false_and]
  refine wpAny_bind (wpAny_pure ?_)
  simp only [Bool.false_eq_true, if_false]
  refine wpAny_bind (m := tryMethod (.ref x) _ b) ?_
  unfold tryMethod
  refine wpAny_bind (PySem.W.special_fn X I meth (beq_iff_eq.mp isF) (wpAny_mono h (fun v s' val => ?_) fun _ _ e => e))
  cases v <;> first | exact val.elim | exact wpAny_pure (wpAny_pure (wpAny_pure val))
end
section
variable {X : Cx} {CX : CXT} {C g : Addr} {n : Nat} {sp : Sp} {E : XK}
theorem ip_binM {op : Operator} (M : Meth X.K C (dunder op.info.snd) g) (hc : PySem.W.selfFirst X.K C = true) (hm : mro2 X.K C = true) (hi : PySem.W.findIn X.K (.ref C) (dunderI op.info.2) = some none) (ho : PySem.W.findIn X.K (.type "object") (dunderI op.info.2) = some none)
    (F : FnR X.prog X.w X.K X.mg X.base CX n g sp) (hr : Room n X.A) (hx : Passes CX X E) : PIp X op (rBinM C sp E) := by
  intro pins s σ H x y v u Q I rx ry h
  obtain ⟨a, dx, fs, b, dy, gs, rfl, rfl, ha, hb, q⟩ := h
  cases (show v = Value.ref a from rx)
  cases (show u = Value.ref b from ry)
  obtain ⟨ox, od, J⟩ := ins_at I ha
  obtain ⟨oy, ody, Jb⟩ := ins_at I hb
  obtain ⟨m, hF⟩ := I.fr
  refine inplace_K hF I.ok.mod.kin J Jb.type hc hm hi ho M.at_ M.fn ?_
  refine wpAny_mono (wpAny_call (run_fnR (us := [.ref a, .ref b]) (vs := [.ref a, .ref b]) F hr hx I (.cons rfl (.cons rfl .nil)) q)) (fun w s' z => ?_) fun _ _ x => x
  obtain ⟨z', H', I', rz, qz⟩ := z
  exact SlX.cmpback rz ⟨z', H', I', rz, qz⟩
/-- xs[k], k at least 0 -/
def rGetL (K : PySem.W.Frag) : V → V → Hp → VK → Prop := fun x y H Q => ∃ p xs k v, x = .ref p ∧ y = .int k ∧ SqL K H p xs ∧ 0 ≤ k ∧ xs[k.toNat]? = some v ∧ Q v H
theorem get_list : PGet X (rGetL X.K) := by
  intro pins s σ H o i ov iv Q I ro ri h
  obtain ⟨p, xs, k, v, rfl, rfl, hq, k0, he, q⟩ := h
  cases ro
  obtain ⟨t, rfl⟩ := ri
  obtain ⟨its, r, pl, hz⟩ := I.list hq
  obtain ⟨w, ew, rw'⟩ := r.get he
  have hl := r.length
  have hn := line63
  have lt : k.toNat < xs.length := (List.getElem?_eq_some_iff.mp he).1
  exact wpAny_getItem_list pl.isList k0 (by omega) (by simpa using ew) ⟨v, H, I, rw', q⟩
end
end Rs
/-! o.f(e, ..), where o's field f holds an object with an own __call__ -/
namespace Rs
open PySem PySem.Spec PyProof.Rows L2
section
variable {X : Cx} {CX : CXT} {C g : Addr} {n : Nat} {sp : Sp} {E : XK}
theorem getmeth_fld {pins : _} {σ : _} {H : Hp} {s : Shared} {A : Around} {a C1 dx : Addr} {fs : List (Str × V)} {f : Str} {v : V} {pl : Sem Bool} {Q : Value × List Value → Shared → Prop} {E : Value → Shared → Prop} (I : Inv X pins σ H s) (e : H a = some (.ins C1 dx fs)) (c : Cls X.K C1) (n : NoAttr X.K C1 f) (l : fs.lookup f = some v)
    (h : ∀ u s', Inv X pins σ H s' → RelV v u → Q (u, []) s') : wpAny (model X.prog X.w) A (getMethod (.ref a) f pl) Q E s := by
  obtain ⟨mA, O, r, _, _, _⟩ := ins_get I.hok e
  obtain ⟨od, J, hl⟩ := O.look
  refine PySem.W.method_usual (r := none) I.kIn J (PySem.W.plainGet_of (c.get f)).1 (PySem.W.plainGet_of (c.get f)).2 n rfl ?_
  exact getattr_ok I e c n l fun u s' I' ru => h u s' I' ru
def tCallF (K : PySem.W.Frag) (f : Str) (C : Addr) (sp : Sp) (E : XK) (ta : TE) (t : TA) : TE := fun σ H Q => ta σ H fun x H1 => ∃ a C1 dx fs v, x = .ref a ∧ H1 a = some (.ins C1 dx fs) ∧ Cls K C1 ∧ NoAttr K C1 f ∧ fs.lookup f = some v ∧
  ∃ b dy gs, v = .ref b ∧ H1 b = some (.ins C dy gs) ∧ t σ H1 fun vs H2 => (∃ dy gs, H2 b = some (.ins C dy gs)) ∧ sp (.ref b :: vs) H2 Q E
theorem pe_callF {K : PySem.W.Frag} (eK : X.K = K) {o e : Expr} {es : List Expr} {f : Str} {ta : TE} {t : TA} {pos apos : Pos} {pl : Sem Bool} (ho : PE X o ta) (M : Meth K C "__call__" g) (hfn : PySem.W.fnIn K g = true) (F : FnR X.prog X.w K X.mg X.base CX n g sp) (hr : Room n X.A) (hx : Passes CX X E) (ha : PA X (e :: es) t)
    (hst : starEach (e :: es) X.env = (false, eval e X.env) :: starEach es X.env := by rfl) (hpl : (backTo pos (starEach es X.env)).any (·.1) = false := by rfl)
    (ht : eval (.Call (.Attribute o f apos) (e :: es) [] pos) X.env = (do
      let ov ← eval o X.env
      standAt apos.atName
      let (f, first) ← holding [ov] (getMethod ov f pl)
      callWith pos f first (backTo pos (starEach (e :: es) X.env)) (backToKw pos (keywordEach [] X.env))) := by rfl) : PE X (.Call (.Attribute o f apos) (e :: es) [] pos) (tCallF K f C sp E ta t) := by
  subst eK
  refine ⟨fun pins s σ H Q I h => ?_⟩
  refine PySem.W.methodCall_KW (pl := pl) (thn (ho.run pins s σ H _ I h) fun u s1 res => ?_) ht
  obtain ⟨x, H1, I1, rx, a, C1, dx, fs, v, ex, ea, c, nA, l, b, dy, gs, ev, eb, q⟩ := res
  subst ex ev
  cases (show u = Value.ref a from rx)
  refine getmeth_fld I1 ea c nA l fun u2 s2 I2 r2 => ?_
  cases (show u2 = Value.ref b from r2)
  refine callWith_ins (C := C) (thn (ha.run pos pins s2 σ H1 _ I2 q) fun us s3 hu => ?_) hst hpl
  obtain ⟨vs, H2, I3, rr, ⟨dx2, fs2, hi2⟩, q⟩ := hu
  obtain ⟨od2, J2⟩ := ins_obj I3 hi2
  exact ⟨⟨_, _, J2, rfl⟩, wpAny_call (PySem.W.kco_code I3.kIn J2 rfl M.at_ M.fn hfn (run_fnR (us := .ref b :: us) (vs := .ref b :: vs) F hr hx I3 (.cons rfl rr) q))⟩
end
end Rs
/-! own exceptions as values: made, asked by isinstance, their field read -/
namespace Rs
open PySem PySem.Spec PyProof.Rows L2
section
variable {X : Cx} {CX : CXT} {k : Nat} {C fI : Addr} {fd : FuncData} {ps : List Str} {sp : Sp} {x : Str} {p pos : Pos} {e : Expr} {es : List Expr} {ta : TA}
def tExo (C : Addr) (sp : Sp) (t : TA) : TE := fun σ H Q => t σ H fun vs H1 => vs.length ≤ 1000 ∧ ∀ a, H1 a = none → sp (.ref a :: vs) (upd H1 a (exo a C none)) (fun v H2 => v = .non ∧ Q (.ref a) H2) (fun _ _ _ => False)
theorem pe_oex (T : OexC X.K C) (iC : PySem.W.findIn X.K (.ref C) "__init__" = some (some (.ref fI))) (tI : PySem.W.typeIn X.K (.ref fI) = some (.type "function"))
    (F : FnOk X.prog X.w X.K X.mg X.base CX k fI fd ps sp) (hr : Room (k + 1) X.A) (hb : Binds X.K fd ps []) (hx : Passes CX X (fun _ _ _ => False)) (hg : Gl X x) (hm : X.mg x = some (.ref C)) (ha : PA X (e :: es) ta)
    (hdb : (x == ("__debug__" : Str)) = false := by decide) (he : starEach (e :: es) X.env = (false, eval e X.env) :: starEach es X.env := by rfl) (hpl : (backTo pos (starEach es X.env)).any (·.1) = false := by rfl) :
    PE X (.Call (.Name x p) (e :: es) [] pos) (tExo C sp ta) := by
  refine ⟨fun pins s σ H Q I h => ?_⟩
  obtain ⟨nm, q, N, bs, bm, sn, sub, ab, col, dd, k0, k1, k2, k3, k5, hC, hbm⟩ := T.cls
  refine wpAny_Call_Name_kw (ld_glob I hg hm ?_ hdb)
  refine PySem.W.callWith_K (h₀ := X.base) I.ok.mod.kin T.kC (thn (ha.run pos pins s σ H _ I h) fun us s1 res => ?_) he hpl
  obtain ⟨vs, H1, I1, r1, hz, q1⟩ := res
  refine ⟨I1.kIn, ?_⟩
  show wpAny _ _ (call (.ref C) us) _ _ _
  obtain ⟨hp, g, dr, tk, os⟩ := s1
  have up : hp.objs.size ≤ hp.objs.size + 1 := Nat.le_succ _
  have want := q1 (hp.objs.size + 1) (I1.hok.fresh up)
  have kept : ∀ b o, hp.get? b = some o → ((hp.push (PySem.W.kdv_tup us)).push (PySem.HandSPX.excO C hp.objs.size)).get? b = some o := fun b o z => Heap.get?_push_of_some _ (Heap.get?_push_of_some _ z)
  have at1 : ((hp.push (PySem.W.kdv_tup us)).push (PySem.HandSPX.excO C hp.objs.size)).get? (hp.objs.size + 1) = some (PySem.HandSPX.excO C hp.objs.size) := by heap_get
  have J : Inv X pins σ (upd H1 (hp.objs.size + 1) (exo (hp.objs.size + 1) C none)) ⟨(hp.push (PySem.W.kdv_tup us)).push (PySem.HandSPX.excO C hp.objs.size), g, dr, tk, os⟩ := Inv.laid (t' := tk) I1 kept up (exo_ok at1)
  have rel : Vals (V.ref (hp.objs.size + 1) :: vs) (Value.ref (hp.objs.size + 1) :: us) := .cons rfl r1
  have n1 : (Value.ref (hp.objs.size + 1) :: us).length = ps.length := by rw [← rel.length]; exact F.len _ _ _ _ want
  have bd := hb _ (Value.ref (hp.objs.size + 1) :: us) J.kIn (by rw [List.append_nil]; exact n1)
  rw [List.append_nil] at bd
  have few : us.length ≤ sizeLine := by have e1 := r1.length; have e2 := sizeLine_eq; omega
  refine wpAny_call (PySem.HandSPX.call_own PySem.F.excBase_ValueError (fun Y => PySem.HandSPX.refsVE_contains Y bm hbm) (I1.kIn _ _ hC) (PySem.W.looks_findIn I1.kIn iC) (fun self => PySem.W.bind_fn I1.kIn self tI) few
    (codeAny_mono (F.run _ X.stack _ _ ⟨Value.ref (hp.objs.size + 1) :: us, []⟩ _ _ _ (fun _ _ _ => False) (hr.make C us []) (J.env0.make C us []) bd rel want) fun r s2 got => ?_))
  cases r with
  | error er => exact hx pins σ _ _ er s2 J got
  | ok fl =>
    cases fl with
    | next => exact got.elim
    | brk => exact got.elim
    | cont => exact got.elim
    | ret u =>
      obtain ⟨v, H2, J2, rv, ev, q2⟩ := J.after got
      subst ev
      exact ⟨rv, .ref (hp.objs.size + 1), H2, J2, rfl, q2⟩
theorem pe_oei (T : OexI X.K C) (iC : PySem.W.findIn X.K (.ref C) "__init__" = some (some (.ref fI))) (tI : PySem.W.typeIn X.K (.ref fI) = some (.type "function"))
    (F : FnOk X.prog X.w X.K X.mg X.base CX k fI fd ps sp) (hr : Room (k + 1) X.A) (hb : Binds X.K fd ps []) (hx : Passes CX X (fun _ _ _ => False)) (hg : Gl X x) (hm : X.mg x = some (.ref C)) (ha : PA X (e :: es) ta)
    (hdb : (x == ("__debug__" : Str)) = false := by decide) (he : starEach (e :: es) X.env = (false, eval e X.env) :: starEach es X.env := by rfl) (hpl : (backTo pos (starEach es X.env)).any (·.1) = false := by rfl) :
    PE X (.Call (.Name x p) (e :: es) [] pos) (tExo C sp ta) := by
  refine ⟨fun pins s σ H Q I h => ?_⟩
  obtain ⟨nm, q, N, bs, sn, sub, ab, col, dd, k0, k1, k2, k3, k5, hC⟩ := T.cls
  refine wpAny_Call_Name_kw (ld_glob I hg hm ?_ hdb)
  refine PySem.W.callWith_K (h₀ := X.base) I.ok.mod.kin T.kp (thn (ha.run pos pins s σ H _ I h) fun us s1 res => ?_) he hpl
  obtain ⟨vs, H1, I1, r1, hz, q1⟩ := res
  refine ⟨I1.kIn, ?_⟩
  show wpAny _ _ (call (.ref C) us) _ _ _
  obtain ⟨hp, g, dr, tk, os⟩ := s1
  have up : hp.objs.size ≤ hp.objs.size + 1 := Nat.le_succ _
  have want := q1 (hp.objs.size + 1) (I1.hok.fresh up)
  have kept : ∀ b o, hp.get? b = some o → ((hp.push (PySem.W.kdv_tup us)).push (PySem.HandSPX.excO C hp.objs.size)).get? b = some o := fun b o z => Heap.get?_push_of_some _ (Heap.get?_push_of_some _ z)
  have at1 : ((hp.push (PySem.W.kdv_tup us)).push (PySem.HandSPX.excO C hp.objs.size)).get? (hp.objs.size + 1) = some (PySem.HandSPX.excO C hp.objs.size) := by heap_get
  have J : Inv X pins σ (upd H1 (hp.objs.size + 1) (exo (hp.objs.size + 1) C none)) ⟨(hp.push (PySem.W.kdv_tup us)).push (PySem.HandSPX.excO C hp.objs.size), g, dr, tk, os⟩ := Inv.laid (t' := tk) I1 kept up (exo_ok at1)
  have rel : Vals (V.ref (hp.objs.size + 1) :: vs) (Value.ref (hp.objs.size + 1) :: us) := .cons rfl r1
  have n1 : (Value.ref (hp.objs.size + 1) :: us).length = ps.length := by rw [← rel.length]; exact F.len _ _ _ _ want
  have bd := hb _ (Value.ref (hp.objs.size + 1) :: us) J.kIn (by rw [List.append_nil]; exact n1)
  rw [List.append_nil] at bd
  have few : us.length ≤ sizeLine := by have e1 := r1.length; have e2 := sizeLine_eq; omega
  refine wpAny_call (PySem.HandSPX.call_own PySem.F.excBase_IndexError (fun _ => rfl) (I1.kIn _ _ hC) (PySem.W.looks_findIn I1.kIn iC) (fun self => PySem.W.bind_fn I1.kIn self tI) few
    (codeAny_mono (F.run _ X.stack _ _ ⟨Value.ref (hp.objs.size + 1) :: us, []⟩ _ _ _ (fun _ _ _ => False) (hr.make C us []) (J.env0.make C us []) bd rel want) fun r s2 got => ?_))
  cases r with
  | error er => exact hx pins σ _ _ er s2 J got
  | ok fl =>
    cases fl with
    | next => exact got.elim
    | brk => exact got.elim
    | cont => exact got.elim
    | ret u =>
      obtain ⟨v, H2, J2, rv, ev, q2⟩ := J.after got
      subst ev
      exact ⟨rv, .ref (hp.objs.size + 1), H2, J2, rfl, q2⟩
/-- C() of a class without an own __init__ -/
theorem pe_exc0 {bmB : List Value} {B newId initId : String} (F : ExcBaseFacts B newId initId bmB) (q : PySem.W.excIn X.K C bmB newId = true) (gC : X.mg x = some (.ref C)) (kC : PySem.W.keepIn X.K (.ref C) = true) (hg : Gl X x)
    (hdb : (x == ("__debug__" : Str)) = false := by decide) : PE X (.Call (.Name x p) [] [] pos) (fun σ H Q => ∀ a, H a = none → Q (.ref a) (upd H a (ExO (.ref C) a))) := by
  refine ⟨fun pins s σ H Q I h => ?_⟩
  refine wpAny_Call_Name_kw (ld_glob I hg gC ?_ hdb)
  have I1 := I
  refine PySem.W.callWith_K0 I.kIn kC ?_
  obtain ⟨bm, N, nm, qn, bs, hdct, sn, sub, ab, col, dd, k0, k1, k2, k3, k5, mN, hC, hN, hni, T⟩ := exc_obj I1.kIn q
  refine wpAny_call_exc_subT F T hC hN hni (fun h' a hm => ?_) (by show 0 ≤ sizeLine; omega)
  have hn : H a = none := I1.hok.gone hm.new
  obtain ⟨t, ht, _, _⟩ := hm.there
  exact ⟨.ref a, upd H a (ExO (.ref C) a), I1.laidN hm.keeps hm.new hn (exO_ok ht ⟨rfl, rfl⟩ rfl rfl rfl (show 4 < 6 by decide)), rfl, h a hn⟩
end
/-- at a: an exception of the class at C; its field, where it has one -/
def ErrA (H : Hp) (a C : Addr) (o : Option (Str × V)) : Prop := (∃ dx f y, o = some (f, y) ∧ H a = some (exo a C (some dx)) ∧ H dx = some (exd dx [(f, y)])) ∨ (o = none ∧ H a = some (ExO (.ref C) a))
section
variable {X : Cx} {pins : List (Addr × Obj)} {σ : L2.St} {H : Hp} {s : Shared} {a C : Addr} {o : Option (Str × V)}
theorem err_at (I : Inv X pins σ H s) (h : ErrA H a C o) : ∃ oe od, PySem.W.InstAt s.heap a oe C od ∧ ∀ f y, o = some (f, y) → ∃ (dx : Addr) (od1 : Obj) (u : Value), od = some od1 ∧ PySem.W.lookIn f od1 = some (some u) ∧ RelV y u := by
  rcases h with ⟨dx, f, y, rfl, ha, hd⟩ | ⟨rfl, ha⟩
  · obtain ⟨t1, ho⟩ := exo_at I.hok ha
    obtain ⟨mA, hns, rel⟩ := exd_at I.hok hd
    obtain ⟨od, ho2, hl⟩ := lookIn_ns hns
    refine ⟨_, some od, ⟨ho, rfl, by unfold PySem.W.notCls; rfl, ho2⟩, fun f' y' e => ?_⟩
    cases e
    obtain ⟨u, hu, ru⟩ := RelO.some_of (v := y) (o := mA f) (by
      have z := rel f
      rw [lookup_put, if_pos rfl] at z
      exact z)
    exact ⟨dx, od, u, rfl, by rw [hl, hu], ru⟩
  · obtain ⟨⟨oe, vs, he, hz, hd, _, _, _⟩, _⟩ := (show ObjOk X.prog X.w H s.heap a (ExO (.ref C) a) from I.hok a _ ha)
    exact ⟨oe, none, ⟨he, hz.1, by unfold PySem.W.notCls; rw [hd] <;> rfl, by rw [hz.2]; trivial⟩, fun f' y' e => nomatch e⟩
end
section
variable {X : Cx}
def rIsE (K : PySem.W.Frag) : List V → Hp → VK → Prop := fun xs H Q => ∃ (a C : Addr) (o : Option (Str × V)) (c : V) (cv : Value) (b : Bool), xs = [.ref a, c] ∧ ErrA H a C o ∧ ExX K C ∧ ClsV c cv ∧ PySem.W.kitOne K (.ref C) cv = some b ∧ Q (.bl b) H
theorem call_isE : CallR X (.builtin "isinstance") (rIsE X.K) := by
  intro pins s σ H xs us Q I r h
  obtain ⟨a, C, o, c, cv, b, rfl, he, T, kc, e, q⟩ := h
  obtain ⟨u1, u2, rfl, r1, r2⟩ := vals2 r
  obtain rfl := kc.eq r2
  cases (show u1 = Value.ref a from r1)
  obtain ⟨oe, od, J, _⟩ := err_at I he
  exact PySem.W.kia_one (PySem.W.kitx_exc T.cl T.ga T.gg T.sb T.ca T.sp T.tk T.mo) I.kIn J e (fun z => nomatch z) fun tk => ⟨.bl b, H, I.tok tk, rfl, q⟩
def tXfE (K : PySem.W.Frag) (f : Str) (te : TE) : TE := fun σ H Q => te σ H fun x H1 => ∃ (a C : Addr) (v : V), x = .ref a ∧ ErrA H1 a C (some (f, v)) ∧ XfC K C ∧ PySem.W.findIn K (.ref C) f = some none ∧ Q v H1
theorem pe_xfE {e : Expr} {te : TE} {pos : Pos} {n : Str} (he : PE X e te) (hb : attributeBase e n X.env (eval e X.env) = eval e X.env := by rfl) : PE X (.Attribute e n pos) (tXfE X.K n te) := by
  refine ⟨fun pins s σ H Q I h => ?_⟩
  refine attr_of hb (thn (he.run pins s σ H _ I h) fun u s1 hh => ?_)
  obtain ⟨x, H1, I1, rx, a, C, v, ex, ea, T, hno, q⟩ := hh
  subst ex
  cases (show u = Value.ref a from rx)
  obtain ⟨oe, od, J, more⟩ := err_at I1 ea
  obtain ⟨dx, od1, u, rfl, hl, ru⟩ := more n v rfl
  exact HandSPX.exc_get I1.kIn J T.ga T.gg T.exC (PySem.W.findObj_own T.hdC hno rfl hl) (handed_of ru) ⟨v, H1, I1.tok _, ru, q⟩
end
end Rs
/-! try with clauses of any kind, one behind another: what has landed (Landed), what a row of clauses does with it (HandR) -/
namespace Rs
open PySem PySem.Spec PyProof.Rows L2
section
variable {X : Cx}
/-- an exception of the class cls, its own dict at d, stands at a and has landed at our frame, in the heap h -/
structure Landed (X : Cx) (pins : List (Addr × Obj)) (σ : L2.St) (H : Hp) (a : Addr) (cls : Value) (d : Option Addr) (t : Shared) (h : Heap) : Prop where
  new : H a = none
  past : ∃ (B : Heap) (t0 : Shared), Inv X pins σ H t0 ∧ (∀ b o, t0.heap.get? b = some o → b ∉ frs X.stack → B.get? b = some o) ∧ t0.heap.UpToSlots h ∧ HandSPX.FlyingZ B (X.env :: X.outer) a (Zc cls d) h ∧ t.os = t0.os ∧ AllBare t.gens
variable {pins : List (Addr × Obj)} {σ : L2.St} {H : Hp} {a : Addr} {cls : Value} {d : Option Addr} {t : Shared} {h : Heap}
theorem Landed.inv (l : Landed X pins σ H a cls d t h) : Inv X pins σ H { t with heap := h } := by
  obtain ⟨_, _, J, old, up, fly, os, ag⟩ := l.past
  exact J.landed old fly.1 up os ag
/-- within the clause's suite -/
theorem Landed.within (hf : X.env.frame = some X.env.locals) (l : Landed X pins σ H a cls d t h) :
    ∃ oe vs, h.get? a = some oe ∧ Zc cls d oe ∧ oe.data = .fields vs ∧ Inv (X.suite a ((a, oe) :: (X.pn ++ pins))) [] σ H { t with heap := h } := by
  have J := l.inv
  obtain ⟨B, _, _, _, _, fly, _, _⟩ := l.past
  obtain ⟨oe, vs, at_, z, fields⟩ := fly.there
  have far : a ∉ frs (X.env :: X.outer) := fun m => by
    obtain ⟨_, o, q, no⟩ := fly.2.2.1.mem m
    rw [at_] at q
    injection q with q
    rw [← q] at no
    exact no _ fields
  refine ⟨oe, vs, at_, z, fields, J.suite at_ fields l.new (fun q => ?_) fun m => ?_⟩
  · exact far (List.mem_filterMap.mpr ⟨X.env, .head _, by rw [hf, q]⟩)
  · obtain ⟨e, m1, m2⟩ := List.mem_filterMap.mp m
    exact far (List.mem_filterMap.mpr ⟨e, .tail _ m1, m2⟩)
theorem Landed.again {A : Around} {Q : Unit → Shared → Prop} {E : Value → Shared → Prop} (l : Landed X pins σ H a cls d t h) (k : ∀ h', Landed X pins σ H a cls d t h' → Q () { t with heap := h' }) :
    wpAny (model X.prog X.w) A (setFlight (.ref a) none) Q E { t with heap := h } := by
  obtain ⟨B, t0, J, old, up, fly, os, ag⟩ := l.past
  exact HandSPX.lands_againZ fly fun h' fly' up' => k h' ⟨l.new, B, t0, J, old, up.trans up', fly', os, ag⟩
/-- no clause takes it: it goes on -/
theorem Landed.on {W : WX} {Q : Unit → Shared → Prop} {E : Value → Shared → Prop} (hs : X.stack = X.env :: X.outer) (l : Landed X pins σ H a cls d t h) (w : W cls d σ H) (k : ∀ h', XE X W (.ref a) { t with heap := h' } → Q () { t with heap := h' }) :
    wpAny (model X.prog X.w) X.A (setFlight (.ref a) (some X.env.locals)) Q E { t with heap := h } := by
  obtain ⟨B, t0, J, old, up, fly, os, ag⟩ := l.past
  exact HandSPX.setFlight_upZ fly fun h' held up' => k h' ⟨a, B, t0, pins, σ, H, cls, d, rfl, J, old, up.trans up', by rw [hs]; exact .inr (.inr held), l.new, os, ag, w⟩
/-- what a row of clauses does with what has landed -/
def HandR (X : Cx) (hds : List ExceptHandler) (wish : Ends → WX) : Prop := ∀ (pins : List (Addr × Obj)) (σ : L2.St) (H : Hp) (a : Addr) (cls : Value) (d : Option Addr) (t : Shared) (h : Heap) (D : Ends), Landed X pins σ H a cls d t h → wish D cls d σ H →
  wpAny (model X.prog X.w) X.A (handleBy (.ref a) X.env hds) (SP X pins D) X.xe { t with heap := h }
theorem hand_nil {W : WX} (hs : X.stack = X.env :: X.outer) (hf : X.env.frame = some X.env.locals) (tk : Takes X W) : HandR X [] fun _ => W := by
  intro pins σ H a cls d t h D l w
  have go : ∀ {Q : Flow → Shared → Prop}, wpAny (model X.prog X.w) X.A (setFlight (.ref a) X.env.frame) (fun _ t' => wpAny (model X.prog X.w) X.A (throw (.ref a) : Sem Flow) Q X.xe t') X.xe { t with heap := h } := fun {Q} => by
    rw [hf]
    exact l.on hs w fun h' x => wpAny_throw (tk _ _ x)
  obtain ⟨_, _, _, _, _, ⟨_, _, _, oe, vs, T, _, _, at_, _, fields, one, _⟩, _, _⟩ := l.past
  refine wpAny_handleBy_nil ?_
  unfold PySem.passOn
  refine wpAny_bind (wpAny_field at_ fields one ?_)
  rw [if_neg (by simp : ¬ ((Value.ref T == Value.none) = true))]
  first
    | exact wpAny_bind (wpAny_pure (wpAny_bind go))
    | exact wpAny_bind go
/-- except x as n -/
theorem hand_as {x n : Str} {c : Value} {i : Nat} {b₀ : Stmt} {suite : List Stmt} {np pos' : Pos} {ts : Addr → Value → Option Addr → TS} {hds : List ExceptHandler} {more : Ends → WX} (hf : X.env.frame = some X.env.locals) (hN : X.N.Nodup) (hi : X.N[i]? = some n) (hln : X.env.kindOf n = some .local) (hc : Names X x c)
    (hsu : ∀ (a : Addr) (oe : Obj) (cls : Value) (d : Option Addr) (pn : List (Addr × Obj)), Zc cls d oe → (∃ vs, oe.data = .fields vs) → PSs (X.suite a ((a, oe) :: pn)) (b₀ :: suite) (ts a cls d)) (rest : HandR X hds more) :
    HandR X (.ExceptHandler (some (.Name x np)) (some n) (b₀ :: suite) pos' :: hds) fun D => wAs X.K c i ts (more D) D := by
  rintro pins σ H a cls d t h D l ⟨b, isc, yes, no⟩
  obtain ⟨oe, _, at_, z, _, S⟩ := l.within hf
  have looks : PySem.W.Looks (model X.prog X.w) h (typeOf (.ref a)) cls := fun _ _ _ _ k q => wpAny_typeOf_ref (k _ _ at_) (by rw [z.1]; exact q)
  have told : ∀ {Q : Value → Shared → Prop} {E : Value → Shared → Prop}, Q c { t with heap := h } → wpAny (model X.prog X.w) (X.A.mark (some (.ref a))) (eval (.Name x np) X.env) Q E { t with heap := h } := fun {Q E} q => by
    rcases hc with ⟨g, dbg, m | ⟨m, v, nn⟩⟩
    · exact ld_glob (X := X.suite a ((a, oe) :: (X.pn ++ pins))) S g m q dbg
    · exact ld_blt (X := X.suite a ((a, oe) :: (X.pn ++ pins))) S g m v q nn dbg
  refine wpAny_handleBy_cons (codeAny_handlers_test (told ((PySem.W.exm_one (M := model X.prog X.w) l.inv.kIn looks isc).here ?_))) (fun q => nomatch q)
  cases b
  · exact rest pins σ H a cls d t h D l (no rfl)
  · refine codeAny_handlers_suite_as (l.again fun h' l' => ?_)
    obtain ⟨oe', _, _, z', fields', S'⟩ := l'.within hf
    refine store_ok (X := X.suite a ((a, oe') :: (X.pn ++ pins))) (v := .ref a) S' hN hi (.inl hln) rfl (fun t1 S1 => ?_) (.inr hln)
    have bye : ∀ {σ2 : L2.St} {H2 : Hp} {t2 : Shared} {Q : Shared → Prop}, Inv (X.suite a ((a, oe') :: (X.pn ++ pins))) [] σ2 H2 t2 → (∀ t3, Inv X pins (σ2.set i none) H2 t3 → Q t3) →
        wpAny (model X.prog X.w) X.A (do bindName X.env n .none; unbindBehindTheSuite X.env n pos') (fun _ t3 => Q t3) X.xe t2 := fun J q => gone_ok (J.unsuite l.inv.ok) hN hi hln q
    refine wpAny_mono ((hsu a oe' cls d (X.pn ++ pins) z' ⟨_, fields'⟩).run [] t1 _ H _ S1 (yes rfl a l.new)) ?_ (fun _ _ q => q.elim)
    intro f t2 q
    match f, q with
    | .next, ⟨_, _, J, q⟩ => exact bye J fun _ J' => ⟨_, _, J', q⟩
    | .brk, ⟨_, _, J, q⟩ => exact bye J fun _ J' => ⟨_, _, J', q⟩
    | .cont, ⟨_, _, J, q⟩ => exact bye J fun _ J' => ⟨_, _, J', q⟩
    | .ret _, ⟨_, _, _, J, r, q⟩ => exact bye J fun _ J' => ⟨_, _, _, J', r, q⟩
/-- at the clauses the slots are as many as the names -/
theorem hand_len {hds : List ExceptHandler} {wish : Ends → WX} (r : HandR X hds wish) : HandR X hds fun D cls d σ H => σ.length = X.N.length → wish D cls d σ H := fun pins σ H a cls d t h D l w => r pins σ H a cls d t h D l (w l.inv.len)
theorem ps_try_by {body : List Stmt} {h₀ : ExceptHandler} {hds : List ExceptHandler} {pos : Pos} {tb : WX → TS} {wish : Ends → WX} (hs : X.stack = X.env :: X.outer) (hf : X.env.frame = some X.env.locals)
    (hb : ∀ (W : WX) (pn : List (Addr × Obj)) (xe : Value → Shared → Prop), Takes (X.tr pn xe) W → PassesOwn (model X.prog X.w) X.A X.env xe → PSs (X.tr pn xe) body (tb W)) (hr : HandR X (h₀ :: hds) wish) :
    PS X (.Try body (h₀ :: hds) [] [] pos) fun D σ H => tb (wish D) D σ H := by
  constructor
  intro pins t σ H D I w
  have ok := I.ok
  let catch_ : Value → Shared → Prop := fun e t1 => wpAny (model X.prog X.w) X.A (noteFrame e X.env) (fun _ t2 => wpAny (model X.prog X.w) X.A (setFlight e none) (fun _ t3 => wpAny (model X.prog X.w) X.A (handleBy e X.env (h₀ :: hds)) (SP X pins D) X.xe t3) X.xe t2) X.xe t1
  have caught : Takes (X.tr (X.pn ++ pins) catch_) (wish D) := by
    rintro _ t1 ⟨a, B, t0, pins', σ', H', cls, d, rfl, J, old, up, sky, new, os, ag, w⟩
    have fr : X.A.frames = some (X.env :: X.outer) := ok.frames.trans (by rw [hs])
    have sky : Sky B (X.env :: X.outer) a (Zc cls d) X.env.locals t1.heap := hs ▸ sky
    exact Sky.land Zc.steady fr hf sky fun h fly up' => hr _ _ _ _ _ _ _ _ _ ⟨new, B, t0, J.ofTry ok, old, up.trans up', fly, os, ag⟩ w
  refine wpAny_Try_except (wpAny_mono ((hb (wish D) _ catch_ caught PassesOwn.looking).run [] t σ H D (I.toTry _) w) ?_ fun _ _ q => q)
  intro f t1 q
  match f, q with
  | .next, ⟨_, _, J, q⟩ => exact wpAny_execs_nil ⟨_, _, J.ofTry ok, q⟩
  | .brk, ⟨_, _, J, q⟩ => exact ⟨_, _, J.ofTry ok, q⟩
  | .cont, ⟨_, _, J, q⟩ => exact ⟨_, _, J.ofTry ok, q⟩
  | .ret _, ⟨_, _, _, J, r, q⟩ => exact ⟨_, _, _, J.ofTry ok, r, q⟩
end
end Rs
/-! a def that may raise, where it does not -/
namespace Rs
open PySem PySem.Spec PyProof.Rows L2
section
variable {P : Program} {w : World} {K : PySem.W.Frag} {mg : Str → Option Value} {base : Heap} {k : Nat} {f : Addr} {fd : FuncData} {ps : List Str} {sp : Sp}
def quietSp (sp : Sp) : Sp := fun vs H Q _ => sp vs H Q E0
theorem quiet (F : FnOk P w K mg base (L2.CX P w) k f fd ps sp) : FnOk P w K mg base CX0 k f fd ps (quietSp sp) := by
  refine ⟨fun vs H Q E h => F.len vs H Q E0 h, fun A outer s H args us vs Q E hr he hb hv hs => codeAny_mono (F.run A outer s H args us vs Q E0 hr he hb hv hs) fun r s' hq => ?_⟩
  cases r with
  | ok fl =>
    cases fl with
    | ret u => exact hq
    | next => exact hq
    | brk => exact hq
    | cont => exact hq
  | error e =>
    obtain ⟨a, B, H', cls, d, _, _, _, _, _, _, _, hE⟩ := hq
    exact hE
end
end Rs
/-! zip of two tuples, as a walk -/
namespace Rs
open PySem PySem.Spec PyProof.Rows L2 RZ
theorem walk_zipT {K : PySem.W.Frag} {a b : Addr} {xs ys : List V} {n : Nat} (hx : xs.length = n) (hy : ys.length = n) : Walk (ItzT K a b) n (fun H => SqT K H a xs ∧ SqT K H b ys) (YPair (fun i => xs[i]?) (fun i => ys[i]?)) := by
  refine ⟨fun i H hi q => ?_, fun H q => ⟨xs, ys, q.1, q.2, .inl (Nat.le_of_eq hx)⟩, fun i H v H' hi q z => ?_⟩
  · have h1 : i < xs.length := by omega
    have h2 : i < ys.length := by omega
    exact ⟨xs, ys, xs[i], ys[i], q.1, q.2, List.getElem?_eq_getElem h1, List.getElem?_eq_getElem h2⟩
  · obtain ⟨T, x, y, e1, e2, e3, e4, e5⟩ := z
    exact ⟨T, x, y, e1, e2, e3, e4 _ q.1, e5 _ q.2⟩
end Rs
/-! a walk with any body: for the two walks of [e for a in x for b in y] -/
namespace Rs
open PySem PySem.Spec PyProof.Rows L2
theorem walk_go {J : It} {n : Nat} {S : Hp → Prop} {y : Nat → Hp → V → Hp → Prop} (w : Walk J n S y) {H0 : Hp} {B : V → Hp → (Hp → Prop) → Prop} {Qd : Hp → Prop} (Pv : Nat → Hp → Prop) (h0 : Pv 0 H0) (hl : ∀ i H, i ≤ n → Pv i H → S H)
    (hs : ∀ i v H H', i < n → Pv i H → y i H v H' → B v H' (Pv (i + 1))) (hd : ∀ H, Pv n H → Qd H) :
    ∃ W : Nat → Nat → Hp → Prop, (∃ m, W 0 m H0) ∧ ∀ i m H, W i m H → (J.stop i H ∧ Qd H) ∨ (J.go i H ∧ ∃ Nx : Hp → Prop, (∀ H', Nx H' → ∃ m', m' < m ∧ W (i + 1) m' H') ∧ ∀ x H', J.yld i H x H' → B x H' Nx) := by
  refine ⟨fun i m H => i ≤ n ∧ m = n - i ∧ Pv i H, ⟨n, Nat.zero_le _, rfl, h0⟩, ?_⟩
  rintro i m H ⟨hi, rfl, p⟩
  have s := hl i H hi p
  by_cases e : i = n
  · subst e
    exact .inl ⟨w.stops _ s, hd H p⟩
  · have lt : i < n := by omega
    exact .inr ⟨w.goes i _ lt s, Pv (i + 1), fun H' p' => ⟨n - (i + 1), by omega, by omega, rfl, p'⟩, fun x H' q => hs i x H H' lt p (w.yields i H x H' lt s q)⟩
end Rs
/-! lists or tuples, within comprehensions: walked, indexed, cut -/
namespace Rs
open PySem PySem.Spec PyProof.Rows L2
theorem pi_seqAK {X : Cx} {K : PySem.W.Frag} {tg l : Expr} {tl : TE} (e : X.K = K) (hl : PE X l tl) : PI X tg l (iSeqA K tl) := by
  subst e
  exact pi_seqA hl
theorem ix_seqK {X : Cx} {K : PySem.W.Frag} (e : X.K = K) : IxR X (rIx K) := by
  subst e
  exact ix_seq
def rSlE (K : PySem.W.Frag) : V → Option Int → Option Int → Hp → VK → Prop := fun x lo hi H Q => rSlL K x lo hi H Q ∨ rSlA K x lo hi H Q
theorem sl_seqK {X : Cx} {K : PySem.W.Frag} (e : X.K = K) : SlR X (rSlE K) := by
  subst e
  exact SlR.or sl_list sl_tupA
theorem op_eqDK {X : Cx} {K : PySem.W.Frag} (e : X.K = K) (hu : X.A.units + 64 < cLine) : OpR X (compareOp .Eq) (rEqD K) := by
  subst e
  exact op_eqD hu
theorem cr_sumK {X : Cx} {K : PySem.W.Frag} (e : X.K = K) (hc : X.calm = true) : CallR X (.builtin "sum") (rSum K) := by
  subst e
  exact cr_sum hc
theorem call_tuple_ofK {X : Cx} {K : PySem.W.Frag} (e : X.K = K) : CallR X (.type "tuple") (fun xs H Q => ∃ p ys, xs = [V.ref p] ∧ ((SqL K H p ys ∧ ∀ l, H l = none → Q (.ref l) (upd H l (.tup ys))) ∨ (SqT K H p ys ∧ Q (.ref p) H))) := by
  subst e
  exact call_tuple_of
theorem cr_allK {X : Cx} {K : PySem.W.Frag} (e : X.K = K) (hc : X.calm = true) : CallR X (.builtin "all") (rAll K) := by
  subst e
  exact cr_all hc
end Rs
namespace PySem
/-- enumerate of one thing, whatever it is that begins -/
theorem rs_enum_new {v : Value} {o : Obj} {G : Heap → Prop} (B : Begins v o G) :
    Meets (Builtin.«enumerate.__new__» ⟨[.type "enumerate", v], []⟩) (fun _ R s => G s.heap ∧
      R (.ok (.ret (.ref (s.heap.push o).objs.size))) { s with heap := (s.heap.push o).push { cls := .type "enumerate", data := .fields #[.none, .bool false, .ref s.heap.objs.size, rawInt 0, .none, .none] } }) :=
  .of_wp fun prog w A R s hyp => by
    obtain ⟨hp, gs, dr, tk, os⟩ := s
    obtain ⟨g1, fin⟩ := hyp
    have sub := sub_enumerate
    have go : ∀ {A1 : Around} {E1 : Value → Shared → Prop} {Q1 : Value → Shared → Prop}, Q1 (.ref hp.objs.size) ⟨hp.push o, gs, dr, tk, os⟩ → wpAny (model prog w) A1 (pyIter v) Q1 E1 ⟨hp, gs, dr, tk, os⟩ :=
      fun z => B.iter prog w _ _ ⟨hp, gs, dr, tk, os⟩ _ g1 z
    wp_walk using go
    refine wpAny_stack_any fun st => wpAny_pure ?_
    split
    · rename_i c _ _ _ _ _
      cases (c == Value.type "enumerate") <;> (wp_walk using go; exact ⟨_, rfl, fin⟩)
    · wp_walk using go
      exact ⟨_, rfl, fin⟩
theorem rs_enum_call {prog : Program} {w : World} {A : Around} {E : Value → Shared → Prop} {s : Shared} {v : Value} {o : Obj} {G : Heap → Prop} {Q : Value → Shared → Prop} (B : Begins v o G) (g1 : G s.heap)
    (fin : ∀ h', IsEnum h' (s.heap.objs.size + 1) s.heap.objs.size 0 .none → h'.get? s.heap.objs.size = some o → (∀ b u, s.heap.get? b = some u → h'.get? b = some u) → Q (.ref (s.heap.objs.size + 1)) { s with heap := h' }) :
    wpAny (model prog w) A (call (.type "enumerate") [v]) Q E s := by
  refine callType_new F.called_enumerate (by decide) (F.typeCall_enumerate_1 _) (F.newCall_enumerate_1 _) (fun obj => F.args_object_init_2 obj _) F.entry_enumerate_new (rs_enum_new B) ⟨g1, ?_⟩
  have sz : (s.heap.push o).objs.size = s.heap.objs.size + 1 := Heap.size_push ..
  show _ ∧ _
  rw [sz]
  have en : IsEnum ((s.heap.push o).push { cls := .type "enumerate", data := .fields #[.none, .bool false, .ref s.heap.objs.size, rawInt 0, .none, .none] }) (s.heap.objs.size + 1) s.heap.objs.size 0 .none := by
    have t := Heap.get?_push_size (s.heap.push o) (o := { cls := .type "enumerate", data := .fields #[.none, .bool false, .ref s.heap.objs.size, rawInt 0, .none, .none] }) rfl
    rwa [sz] at t
  exact ⟨⟨_, en, rfl⟩, fin _ en (Heap.get?_push_of_some _ (Heap.get?_push_size _ B.free)) fun b u z => Heap.get?_push_of_some _ (Heap.get?_push_of_some _ z)⟩
end PySem
namespace Rs
open PySem PySem.Spec PyProof.Rows L2
/-- enumerate over the tuple at a: each item in a new pair -/
def IteT (K : PySem.W.Frag) (a : Addr) : It :=
  ⟨fun i H => ∃ (xs : List V) (x : V), SqT K H a xs ∧ xs[i]? = some x,
   fun i H v H' => ∃ T x, v = .ref T ∧ H T = none ∧ H' = upd H T (.tup [.int (i : Nat), x]) ∧ ∀ xs, SqT K H a xs → xs[i]? = some x,
   fun i H => ∃ xs : List V, SqT K H a xs ∧ xs.length = i⟩
theorem turn_enumT {P : Program} {w : World} {K : PySem.W.Frag} {elts : List Expr} {kk : Nat} {tpos : Pos} (a e it : Addr) (hae : a ≠ it) :
    Turn P w K (.Tuple elts kk tpos) (IteT K a) [e, it] e (fun i h => (∃ old, IsEnum h e it ((i : Nat) : Int) old) ∧ h.IsTupleIter it a i ∧ e ≠ it ∧ e ≠ a) where
  mem := by simp
  obj := fun i h st b hb => by
    obtain ⟨⟨old, he⟩, ⟨o, ho, hc, hd⟩, _⟩ := st
    rcases (show b = e ∨ b = it by simpa using hb) with rfl | rfl
    · exact ⟨_, he, fun v q => nomatch q⟩
    · exact ⟨o, ho, fun v q => by rw [hd] at q; cases q⟩
  keep := fun i h h' st k => let ⟨⟨old, he⟩, hi, ne⟩ := st; ⟨⟨old, k e (by simp) _ he⟩, hi.at fun o q => k it (by simp) o q, ne⟩
  item := by
    intro X hP hw hK hc i pins s σ H E I hf st hg
    subst hP hw hK
    obtain ⟨⟨old, he⟩, hit, hne, hea⟩ := st
    obtain ⟨xs, x, hq, hx⟩ := hg
    obtain ⟨its, rv, ht, _⟩ := I.tuple hq
    obtain ⟨u, hu, ru⟩ := rv.get hx
    have hel : e < s.heap.objs.size := Heap.lt_size he
    have hil : it < s.heap.objs.size := by obtain ⟨_, q, _⟩ := hit; exact Heap.lt_size q
    have D := Draws.tuple (prog := X.prog) (w := X.w) (A := X.A.in1) (I.ok.hd hc) it a hae its.toArray
    have hi : i < its.toArray.size := by
      have := (List.getElem?_eq_some_iff.mp hu).1
      simpa using this
    refine wpAny_pyNext_enum_itemD D he ⟨hit, ht⟩ hi hne (by simp [hne, hea]) fun x' h' tk hx' ho st' hT hsz hk => ?_
    have ex : x' = u := by
      have q : its.toArray[i]? = some u := by simpa using hu
      rw [q] at hx'
      exact (Option.some.inj hx').symm
    subst ex
    refine ⟨_, rfl, wpAny_letOwnedTupleGo_enum (s := { s with heap := h', toks := tk + 1 }) ho fun h'' he' sb => ?_⟩
    have hT2 : h''.get? s.heap.objs.size = some { cls := .type "tuple", data := .seq #[.int i tk, x'] } := (sb.2 _ (Nat.ne_of_gt hel)).trans hT
    have new : ObjOk X.prog X.w (upd H s.heap.objs.size (.tup [.int (i : Nat), x])) h'' s.heap.objs.size (.tup [.int (i : Nat), x]) :=
      ⟨by show 2 ≤ sizeLine; decide, [.int i tk, x'], .cons ⟨_, rfl⟩ (.cons ru .nil), ⟨_, hT2, rfl, _, rfl⟩⟩
    have I1 : Inv X pins σ (upd H s.heap.objs.size (.tup [.int (i : Nat), x])) { s with heap := h'', toks := tk + 1 } :=
      I.turnedNew (ch := [e, it]) (fun b ob hb q => (sb.2 b (fun z => hb (by simp [z]))).trans (hk b ob (fun z => hb (by simp [z])) (fun z => hb (by simp [z])) q)) hf (Nat.le_refl _) new
    refine ⟨.ref s.heap.objs.size, _, I1, rfl, ⟨_, x, rfl, I.hok.fresh (Nat.le_refl _), rfl, fun ys hy => by rw [I.tuple_inj hy hq]; exact hx⟩, ⟨⟨x', ?_⟩, st'.1.at fun o q => (sb.2 it (Ne.symm hne)).trans q, hne, hea⟩, fun b hb => ?_⟩
    · have e1 : ((i + 1 : Nat) : Int) = (i : Int) + 1 := by omega
      rw [e1]; exact he'
    · have lt : b < s.heap.objs.size := by
        rcases (show b = e ∨ b = it by simpa using hb) with rfl | rfl
        · exact hel
        · exact hil
      rw [upd_ne (Nat.ne_of_lt lt)]
      exact (hf b hb).1
  done := by
    intro X hP hw hK hc i pins s σ H E I hf st hg
    subst hP hw hK
    obtain ⟨⟨old, he⟩, hit, hne, hea⟩ := st
    obtain ⟨xs, hq, hx⟩ := hg
    obtain ⟨its, rv, ht, _⟩ := I.tuple hq
    obtain ⟨f0, f1, f2, f3, f4, f5⟩ := hf it (by simp)
    have hl := rv.length
    have D := Draws.tuple (prog := X.prog) (w := X.w) (A := X.A.in1) (I.ok.hd hc) it a hae its.toArray
    have en : its.toArray.size = i := by
      rw [← hx, hl]
      simp
    subst en
    exact wpAny_pyNext_enum_endD D he ⟨hit, ht⟩ fun h' eb => ⟨rfl, I.turned (t' := s.toks) (fun b o hb q => eb b o hb q) f0 f1 f3 f4 f5⟩
  self := fun A i s Q E st h => let ⟨⟨_, he⟩, _⟩ := st; wpAny_pyIter_enum he h
def iEnumT (K : PySem.W.Frag) (ta : TA) : TI := fun σ H R => ta σ H fun vs H1 => ∃ a xs, vs = [.ref a] ∧ SqT K H1 a xs ∧ R (IteT K a) H1
theorem pi_enumT {X : Cx} {e : Expr} {ta : TA} {p pos tpos : Pos} {elts : List Expr} {kk : Nat} (hg : Gl X "enumerate") (hm : X.mg "enumerate" = none) (ha : PA X [e] ta) (hs : starEach [e] X.env = [(false, eval e X.env)] := by rfl) :
    PI X (.Tuple elts kk tpos) (.Call (.Name "enumerate" p) [e] [] pos) (iEnumT X.K ta) := by
  refine ⟨fun pins s σ H R I hyp => Call_ (ld_blt I hg hm boot_enumerate (PyProof.Rows.callWith_type1 (thn (ha.run pos pins s σ H _ I hyp) fun us s1 res => ?_) hs rfl))⟩
  obtain ⟨vs, H1, I1, r1, a, xs, rfl, hq, q⟩ := res
  cases r1 with
  | cons r rr =>
    cases rr
    cases r
    obtain ⟨its, rv, ht, hz⟩ := I1.tuple hq
    refine rs_enum_call (begins_tuple a its.toArray) ht fun h' he ho hk => wpAny_pyIter_enum he ?_
    have I2 : Inv X pins σ H1 { s1 with heap := h' } := I1.kept (t' := s1.toks) hk
    have la : a < s1.heap.objs.size := ht.lt
    refine ⟨s1.heap.objs.size + 1, [s1.heap.objs.size + 1, s1.heap.objs.size], _, _, H1, rfl, I2, turn_enumT a (s1.heap.objs.size + 1) s1.heap.objs.size (Nat.ne_of_lt la), ⟨⟨.none, he⟩, ⟨_, ho, rfl, rfl⟩, Nat.succ_ne_self _, (Nat.ne_of_lt (Nat.lt_succ_of_lt la)).symm⟩, fun b hb => ?_, q⟩
    have le : s1.heap.objs.size ≤ b := by
      rcases (show b = s1.heap.objs.size + 1 ∨ b = s1.heap.objs.size by simpa using hb) with rfl | rfl
      · exact Nat.le_succ _
      · exact Nat.le_refl _
    exact I1.fpOk le (I1.hok.fresh le)
theorem walk_enumT {K : PySem.W.Frag} {a : Addr} {xs : List V} : Walk (IteT K a) xs.length (fun H => SqT K H a xs) (YPair (fun i => some (.int (i : Nat))) (fun i => xs[i]?)) :=
  ⟨fun i _ hi q => ⟨xs, xs[i], q, by simp [hi]⟩, fun _ q => ⟨xs, q, rfl⟩, fun i H v H' _ q y => by
    obtain ⟨T, x, h1, h2, h3, h4⟩ := y
    exact ⟨T, .int (i : Nat), x, h1, h2, h3, rfl, h4 xs q⟩⟩
end Rs
/-! enumerate(x), x a list or a tuple -/
namespace Rs
open PySem PySem.Spec PyProof.Rows L2
def iEnumA (K : PySem.W.Frag) (ta : TA) : TI := fun σ H R => ta σ H fun vs H1 => ∃ a, vs = [.ref a] ∧ ((∃ xs, SqL K H1 a xs ∧ R (Ite K a) H1) ∨ (∃ xs, SqT K H1 a xs ∧ R (IteT K a) H1))
theorem pi_enumA {X : Cx} {e : Expr} {ta : TA} {p pos tpos : Pos} {elts : List Expr} {kk : Nat} (hg : Gl X "enumerate") (hm : X.mg "enumerate" = none) (ha : PA X [e] ta) (hs : starEach [e] X.env = [(false, eval e X.env)] := by rfl) :
    PI X (.Tuple elts kk tpos) (.Call (.Name "enumerate" p) [e] [] pos) (iEnumA X.K ta) := by
  refine ⟨fun pins s σ H R I hyp => Call_ (ld_blt I hg hm boot_enumerate (PyProof.Rows.callWith_type1 (thn (ha.run pos pins s σ H _ I hyp) fun us s1 res => ?_) hs rfl))⟩
  obtain ⟨vs, G, J, rs, a, rfl, way⟩ := res
  rcases rs with _ | ⟨r, rr⟩
  cases rr
  cases r
  have new : ∀ b ∈ [s1.heap.objs.size + 1, s1.heap.objs.size], FpOk X pins G b := fun b hb => by
    have le : s1.heap.objs.size ≤ b := by
      rcases (show b = s1.heap.objs.size + 1 ∨ b = s1.heap.objs.size by simpa using hb) with rfl | rfl
      · exact Nat.le_succ _
      · exact Nat.le_refl _
    exact J.fpOk le (J.hok.fresh le)
  rcases way with ⟨xs, hq, q⟩ | ⟨xs, hq, q⟩
  · obtain ⟨its, rv, ht, _⟩ := J.list hq
    refine rs_enum_call (begins_list a its.toArray) ht.isList fun h' he ho hk => wpAny_pyIter_enum he ?_
    exact ⟨s1.heap.objs.size + 1, [s1.heap.objs.size + 1, s1.heap.objs.size], _, _, G, rfl, J.kept (t' := s1.toks) hk, turn_enum a (s1.heap.objs.size + 1) s1.heap.objs.size, ⟨⟨.none, he⟩, ⟨_, ho, rfl, rfl⟩, Nat.succ_ne_self _⟩, new, q⟩
  · obtain ⟨its, rv, ht, _⟩ := J.tuple hq
    have la : a < s1.heap.objs.size := ht.lt
    refine rs_enum_call (begins_tuple a its.toArray) ht fun h' he ho hk => wpAny_pyIter_enum he ?_
    exact ⟨s1.heap.objs.size + 1, [s1.heap.objs.size + 1, s1.heap.objs.size], _, _, G, rfl, J.kept (t' := s1.toks) hk, turn_enumT a (s1.heap.objs.size + 1) s1.heap.objs.size (Nat.ne_of_lt la), ⟨⟨.none, he⟩, ⟨_, ho, rfl, rfl⟩, Nat.succ_ne_self _, (Nat.ne_of_lt (Nat.lt_succ_of_lt la)).symm⟩, new, q⟩
end Rs
/-! dict(enumerate(a)), a a list: its items by their numbers -/
namespace Rs
open PySem PySem.Spec PyProof.Rows L2
def enumK {α : Type} (k : Nat) : List α → List (Key × α)
  | [] => []
  | x :: xs => (.inl (k : Int), x) :: enumK (k + 1) xs
theorem enumK_len {α : Type} : ∀ (xs : List α) (k : Nat), (enumK k xs).length = xs.length
  | [], _ => rfl
  | _ :: xs, k => congrArg (· + 1) (enumK_len xs (k + 1))
theorem enumK_get {α : Type} : ∀ (xs : List α) (k i : Nat), (enumK k xs)[i]? = xs[i]?.map fun x => (.inl ((k + i : Nat) : Int), x)
  | [], _, _ => rfl
  | x :: xs, k, 0 => rfl
  | x :: xs, k, i + 1 => by
    show (enumK (k + 1) xs)[i]? = xs[i]?.map _
    rw [enumK_get xs (k + 1) i]
    have e : k + 1 + i = k + (i + 1) := by omega
    rw [e]
theorem enumK_rel : ∀ {xs : List V} {us : List Value} (k : Nat), Vals xs us → KV (enumK k xs) (enumK k us)
  | [], _, _, r => by cases r; exact .nil
  | _ :: _, _, k, r => by
    cases r with
    | cons a b => exact .cons ⟨rfl, a⟩ (enumK_rel (k + 1) b)
theorem enumK_no {xs : List V} : ∀ {k j : Nat}, j < k → valV (enumK k xs) (.inl (j : Int)) = none := by
  induction xs with
  | nil => intro k j _; rfl
  | cons x xs ih =>
    intro k j h
    show valV ((.inl (k : Int), x) :: enumK (k + 1) xs) _ = none
    rw [valV_neg (by intro e; have := Sum.inl.inj e; omega), ih (by omega)]
/-- numbers are put in one behind another -/
theorem enumK_merge {xs : List V} : ∀ (n : Nat), n ≤ xs.length → mergeK [] ((enumK 0 xs).take n) = (enumK 0 xs).take n := by
  intro n
  induction n with
  | zero => intro _; rfl
  | succ n ih =>
    intro h
    have e : (enumK 0 xs)[n]? = some (.inl (n : Int), xs[n]) := by
      rw [enumK_get, List.getElem?_eq_getElem (by omega), Nat.zero_add]
      rfl
    rw [take_snoc e]
    show List.foldl _ _ _ = _
    rw [List.foldl_append]
    have ih' : List.foldl (fun acc (kv : Key × V) => putK acc kv.1 kv.2) [] ((enumK 0 xs).take n) = (enumK 0 xs).take n := ih (by omega)
    rw [ih']
    show putK _ _ _ = _
    refine putK_new _ ?_
    have far : ∀ (l : List (Key × V)), (∀ p ∈ l, p.1 ≠ .inl (n : Int)) → valV l (.inl (n : Int)) = none := by
      intro l
      induction l with
      | nil => intro _; rfl
      | cons p l ih2 =>
        intro hl
        rw [valV_neg (hl p List.mem_cons_self), ih2 fun q hq => hl q (List.mem_cons_of_mem _ hq)]
    refine far _ fun p hp => ?_
    obtain ⟨j, hj⟩ := List.mem_iff_getElem?.mp hp
    have jl := (List.getElem?_eq_some_iff.mp hj).1
    rw [List.length_take, enumK_len] at jl
    rw [List.getElem?_take_of_lt (by omega), enumK_get, List.getElem?_eq_getElem (by omega), Nat.zero_add] at hj
    cases hj
    intro q
    have := Sum.inl.inj q
    omega
theorem enumK_all {xs : List V} : mergeK [] (enumK 0 xs) = enumK 0 xs := by
  have h := enumK_merge (xs := xs) xs.length (Nat.le_refl _)
  rw [List.take_of_length_le (by rw [enumK_len]; exact Nat.le_refl _)] at h
  exact h
def tDictEnum (K : PySem.W.Frag) (te : TE) : TE := fun σ H Q => te σ H fun x H1 => ∃ a xs, x = .ref a ∧ SqL K H1 a xs ∧ ∀ d, H1 d = none → Q (.ref d) (upd H1 d (.dK (mergeK [] (enumK 0 xs))))
theorem pe_dictEnum {X : Cx} {e : Expr} {te : TE} {p1 p2 pos1 pos2 : Pos} (hc : X.calm = true) (hg1 : Gl X "dict") (hm1 : X.mg "dict" = none) (hg2 : Gl X "enumerate") (hm2 : X.mg "enumerate" = none) (he : PE X e te)
    (hs1 : starEach [.Call (.Name "enumerate" p2) [e] [] pos2] X.env = [(false, eval (.Call (.Name "enumerate" p2) [e] [] pos2) X.env)] := by rfl) (hs2 : starEach [e] X.env = [(false, eval e X.env)] := by rfl) :
    PE X (.Call (.Name "dict" p1) [.Call (.Name "enumerate" p2) [e] [] pos2] [] pos1) (tDictEnum X.K te) := by
  refine ⟨fun pins s σ H Q I h => Call_ (ld_blt I hg1 hm1 (by rfl) (PyProof.Rows.callWith_type1 ?_ hs1 rfl))⟩
  rw [hs1]
  refine Calls.spliced_cons (wpAny_mono (Q := fun u s1 => wpAny (model X.prog X.w) X.A (call (.type "dict") [u]) (EP X pins σ Q) X.xe s1) ?_ (fun u s1 h1 => Calls.spliced_nil h1) fun _ _ e => e)
  refine Call_ (ld_blt I hg2 hm2 boot_enumerate (PyProof.Rows.callWith_type1 ?_ hs2 rfl))
  rw [hs2]
  refine Calls.spliced_cons (thn (he.run pins s σ H _ I h) fun u s1 res => Calls.spliced_nil ?_)
  obtain ⟨x, H1, I1, r1, a, xs, rfl, hq, q⟩ := res
  cases r1
  obtain ⟨its, rv, pl, hz⟩ := I1.list hq
  refine call_enumerate_list pl.isList fun h1 hen hit hsz hk => ?_
  have I2 : Inv X pins σ H1 { s1 with heap := h1 } := I1.kept (t' := s1.toks) hk
  have la : a < s1.heap.objs.size := by
    obtain ⟨o, ho, _⟩ := pl.isList
    exact Heap.lt_size ho
  have hl : h1.IsList a its.toArray := pl.isList.at fun o z => hk _ o z
  have hm : (s1.heap.objs.size + 2 == sysModules) = false := beq_eq_false_iff_ne.mpr (Nat.ne_of_gt (Nat.lt_of_lt_of_le I1.big (Nat.le_add_right _ 2)))
  have pairs : PySem.PairsHave (mixKind X.prog X.w) its.toArray.size (fun i k v => (∃ t, k = .int i t) ∧ its.toArray[i]? = some v) (enumK 0 its) := by
    refine ⟨by rw [enumK_len]; simp, fun i key v hr => ?_⟩
    obtain ⟨⟨t, rfl⟩, e⟩ := hr
    have e' : its[i]? = some v := by simpa using e
    refine ⟨.inl (i : Int), ?_, ?_⟩
    · rw [enumK_get, e', Nat.zero_add]
      rfl
    · exact kV_is (k := .inl (i : Int)) ⟨t, rfl⟩
  refine PySem.call_dict_pairs (s := { s1 with heap := h1 }) (PySem.PairArg.enumerate (s1.heap.objs.size + 1) s1.heap.objs.size a (Nat.succ_ne_self _) (Nat.ne_of_lt (Nat.lt_succ_of_lt la)) (Nat.ne_of_lt la) its.toArray) (I2.ok.hd hc) ⟨⟨_, hen⟩, hit, hl⟩ pairs (by simpa [rv.length] using hz) fun h2 tk hd hk2 => ?_
  have hd' : h2.DictOf (mixKind X.prog X.w) (s1.heap.objs.size + 2) (merged [] (enumK 0 its)) := by
    rw [← hsz]
    exact hd
  have rel := KV.merge (enumK_rel 0 rv) (kvs := []) (vs := []) .nil
  have hlen : (mergeK [] (enumK 0 xs)).length ≤ sizeLine := by
    refine Nat.le_trans (length_mergeK (enumK 0 xs) []) ?_
    rw [List.length_nil, Nat.zero_add, enumK_len]
    exact hz
  have keep : ∀ b o, s1.heap.get? b = some o → h2.get? b = some o := fun b o e => hk2 b o (by
    have lb := Heap.lt_size e
    intro m
    rcases (show b = s1.heap.objs.size + 1 ∨ b = s1.heap.objs.size by simpa using m) with rfl | rfl
    · exact Nat.lt_irrefl _ (Nat.lt_of_succ_lt lb)
    · exact Nat.lt_irrefl _ lb) (hk b o e)
  refine ⟨.ref (s1.heap.objs.size + 2), upd H1 (s1.heap.objs.size + 2) (.dK (mergeK [] (enumK 0 xs))), I1.laid (t' := tk) keep (Nat.le_add_right _ 2) (show ObjOk X.prog X.w _ _ _ (.dK (mergeK [] (enumK 0 xs))) from ⟨hlen, hm, _, rel, hd'⟩), ?_, q _ (I1.hok.fresh (Nat.le_add_right _ 2))⟩
  show RelV _ (.ref h1.objs.size)
  rw [hsz]
  rfl
/-- y not in a dict -/
def rNotInDict : R2 := fun y x H Q => ∃ a o, x = .ref a ∧ DGet H a y o ∧ Q (.bl (!o.isSome)) H
theorem op_notInDict {X : Cx} (hu : X.A.units + 1 < cLine) : OpR X (compareOp .NotIn) rNotInDict := by
  intro pins s σ H y x v u Q I ry rx h
  obtain ⟨a, o, rfl, g, q⟩ := h
  cases (show u = Value.ref a from rx)
  exact d_notIn hu I g ry fun s3 I3 => ⟨.bl (!o.isSome), H, I3, rfl, q⟩
end Rs
/-! 'y'.join(xs), within comprehensions -/
namespace Rs
open PySem PySem.Spec PyProof.Rows L2
def rJoin (K : PySem.W.Frag) : V → List V → Hp → VK → Prop := fun x xs H Q => ∃ a p, ∃ ys : List Str, x = .str a ∧ xs = [.ref p] ∧ (SqL K H p (ys.map V.str) ∨ SqT K H p (ys.map V.str)) ∧
  (ys.map (·.length)).sum + ys.length * a.length ≤ 16777216 ∧ Q (.str (Txt.join a ys)) H
theorem pe_joinK {X : Cx} {K : PySem.W.Frag} {o e : Expr} {to te : TE} {x : Str} {apos pos : Pos} (eK : X.K = K) (hx : x = "join") (ho : PE X o to) (he : PE X e te) (hs : starEach [e] X.env = [(false, eval e X.env)] := by rfl) (hbase : attributeBase o "join" X.env (eval o X.env) = eval o X.env := by rfl) (hline : (apos.endLine == pos.line) = true := by rfl) :
    PE X (.Call (.Attribute o x apos) [e] [] pos) (tM1 (rJoin K) to te) := by
  subst eK
  subst hx
  exact pe_join ho he hs hbase hline
end Rs
/-! a list != [], whatever stands in the list -/
namespace Rs
open PySem PySem.Spec PyProof.Rows L2
def rNeNil (K : PySem.W.Frag) : R2 := fun x y H Q => ∃ l b xs, x = .ref l ∧ y = .ref b ∧ SqL K H l xs ∧ SqL K H b [] ∧ Q (.bl (!xs.isEmpty)) H
theorem op_neNil {X : Cx} (hu : X.A.units + 1 < cLine) : OpR X (compareOp .NotEq) (rNeNil X.K) := by
  intro pins s σ H x y v u Q I rx ry h
  obtain ⟨l, b, xs, rfl, rfl, h1, h2, q⟩ := h
  cases (show v = Value.ref l from rx)
  cases (show u = Value.ref b from ry)
  obtain ⟨its, rv, p1, _⟩ := I.list h1
  obtain ⟨its2, rv2, p2, _⟩ := I.list h2
  cases rv2
  have hu0 : X.A.units < cLine := by omega
  show wpAny _ _ (richCompare .NotEq (.ref l) (.ref b)) _ _ _
  cases rv with
  | nil => exact SeqAt.RcNeAt.lists (e := fun _ => true) p1.isList p2.isList rfl hu0 (fun j h1 h2 => absurd h1 (by simp)) _ _ _ _ ⟨.bl _, H, I, rfl, q⟩
  | cons r t => exact SeqAt.RcNeAt.lists_lengths p1.isList p2.isList (by simp) hu0 _ _ _ _ ⟨.bl _, H, I, rfl, q⟩
end Rs
namespace K17
open PySem PySem.Spec PyProof.Rows L2 Rs
local macro_rules | `(tactic| walk_at "om") => `(tactic| first | omega | (dsimp only; omega))
local macro_rules | `(tactic| walk_at "side") => `(tactic| first | omega | (dsimp only; omega) | decide | (unfold CMul; omega) | (unfold CDiv; omega) | (unfold CPow; omega) | exact wide_div (b := 64) (by omega) (by omega) (by decide) (by decide))
local macro_rules | `(tactic| walk_at "hp") => `(tactic| first | assumption | exact upd_same)
local macro_rules | `(tactic| walk_at "sq") => `(tactic| first | assumption | exact SqL.of (by assumption) | exact SqL.of upd_same)
local macro_rules | `(tactic| walk_at "st") => `(tactic| first
  | refine ⟨_, rfl, ?_⟩
  | (refine ⟨_, _, rfl, rfl, And.intro ?side ?_⟩; (case side => walk_at "side"))
  | refine ⟨_, _, rfl, rfl, ?_⟩
  | (refine' ⟨_, _, _, _, rfl, rfl, SqL.of ?hp, ?atx, ?_⟩; (case hp => walk_at "hp"); (case atx => exact rfl))
  | (refine' ⟨_, _, _, _, rfl, rfl, ?hp, ?atx, ?_⟩; (case hp => walk_at "hp"); (case atx => exact rfl))
  | (refine' ⟨_, _, rfl, Or.inl ?sq, ?_⟩; (case sq => walk_at "sq"))
  | refine Or.inl ⟨_, rfl, ?_⟩
  | refine Or.inr ⟨_, rfl, ?_⟩)
local macro_rules | `(tactic| walk_at "evd") => `(tactic| first
  | exact evd_int
  | exact evd_str
  | exact evd_non
  | exact evd_bl
  | exact evd_nil
  | (refine evd_cons ?_ (fun _ => ?_) <;> walk_at "evd")
  | (refine evd_tup ?_ (Nat.le_of_ble_eq_true rfl); walk_at "evd"))

def topS (i : Nat) : Stmt := PySem.Challenge.pw_ringsums_k17_rows_refused.main.body.getD i (.Pass ⟨0, 0, 0, 0⟩)
abbrev s_InvalidRows___init__ : Stmt := inClass (topS 8) 0
theorem sc_InvalidRows___init__ : FnScope ["self", "at"] ["self", "at"] (defScope s_InvalidRows___init__) := ⟨rfl, rfl, rfl, by decide +kernel, rfl, by decide +kernel, by decide +kernel⟩
abbrev s_InvalidSlip___init__ : Stmt := inClass (topS 9) 0
theorem sc_InvalidSlip___init__ : FnScope ["self", "word"] ["self", "word"] (defScope s_InvalidSlip___init__) := ⟨rfl, rfl, rfl, by decide +kernel, rfl, by decide +kernel, by decide +kernel⟩
abbrev s_Refused___init__ : Stmt := inClass (topS 10) 0
theorem sc_Refused___init__ : FnScope ["self", "at"] ["self", "at"] (defScope s_Refused___init__) := ⟨rfl, rfl, rfl, by decide +kernel, rfl, by decide +kernel, by decide +kernel⟩
abbrev s_Form___init__ : Stmt := inClass (topS 18) 0
theorem sc_Form___init__ : FnScope ["self", "times", "plus", "by"] ["self", "times", "plus", "by"] (defScope s_Form___init__) := ⟨rfl, rfl, rfl, by decide +kernel, rfl, by decide +kernel, by decide +kernel⟩
abbrev s_Form___call__ : Stmt := inClass (topS 18) 1
theorem sc_Form___call__ : FnScope ["self", "n"] ["self", "n"] (defScope s_Form___call__) := ⟨rfl, rfl, rfl, by decide +kernel, rfl, by decide +kernel, by decide +kernel⟩
abbrev s_Form___eq__ : Stmt := inClass (topS 18) 2
theorem sc_Form___eq__ : FnScope ["self", "other"] ["self", "other"] (defScope s_Form___eq__) := ⟨rfl, rfl, rfl, by decide +kernel, rfl, by decide +kernel, by decide +kernel⟩
abbrev s_Form___str__ : Stmt := inClass (topS 18) 3
theorem sc_Form___str__ : FnScope ["self"] ["self"] (defScope s_Form___str__) := ⟨rfl, rfl, rfl, by decide +kernel, rfl, by decide +kernel, by decide +kernel⟩
abbrev s_Form_read : Stmt := inClass (topS 18) 4
theorem sc_Form_read : FnScope ["cls", "text", "parts", "times", "plus", "by"] ["cls", "text"] (defScope s_Form_read) := ⟨rfl, rfl, rfl, by decide +kernel, rfl, by decide +kernel, by decide +kernel⟩
abbrev s_Lane___init__ : Stmt := inClass (topS 29) 0
theorem sc_Lane___init__ : FnScope ["self", "way", "sign", "shift", "deed"] ["self", "way", "sign", "shift", "deed"] (defScope s_Lane___init__) := ⟨rfl, rfl, rfl, by decide +kernel, rfl, by decide +kernel, by decide +kernel⟩
abbrev s_Lane___eq__ : Stmt := inClass (topS 29) 2
theorem sc_Lane___eq__ : FnScope ["self", "other"] ["self", "other"] (defScope s_Lane___eq__) := ⟨rfl, rfl, rfl, by decide +kernel, rfl, by decide +kernel, by decide +kernel⟩
abbrev s_Lane___str__ : Stmt := inClass (topS 29) 3
theorem sc_Lane___str__ : FnScope ["self"] ["self"] (defScope s_Lane___str__) := ⟨rfl, rfl, rfl, by decide +kernel, rfl, by decide +kernel, by decide +kernel⟩
abbrev s_Block___init__ : Stmt := inClass (topS 30) 0
theorem sc_Block___init__ : FnScope ["self", "rounds", "lanes", "lane"] ["self", "rounds", "lanes"] (defScope s_Block___init__) := ⟨rfl, rfl, rfl, by decide +kernel, rfl, by decide +kernel, by decide +kernel⟩
abbrev s_Block___eq__ : Stmt := inClass (topS 30) 1
theorem sc_Block___eq__ : FnScope ["self", "other"] ["self", "other"] (defScope s_Block___eq__) := ⟨rfl, rfl, rfl, by decide +kernel, rfl, by decide +kernel, by decide +kernel⟩
abbrev s_Block___str__ : Stmt := inClass (topS 30) 2
theorem sc_Block___str__ : FnScope ["self", "lane"] ["self"] (defScope s_Block___str__) := ⟨rfl, rfl, rfl, by decide +kernel, rfl, by decide +kernel, by decide +kernel⟩
abbrev s_Plan___init__ : Stmt := inClass (topS 31) 0
theorem sc_Plan___init__ : FnScope ["self", "blocks", "block"] ["self", "blocks"] (defScope s_Plan___init__) := ⟨rfl, rfl, rfl, by decide +kernel, rfl, by decide +kernel, by decide +kernel⟩
abbrev s_Plan_all_rounds : Stmt := inClass (topS 31) 1
theorem sc_Plan_all_rounds : FnScope ["self", "n"] ["self", "n"] (defScope s_Plan_all_rounds) := ⟨rfl, rfl, rfl, by decide +kernel, rfl, by decide +kernel, by decide +kernel⟩
abbrev s_Plan___eq__ : Stmt := inClass (topS 31) 8
theorem sc_Plan___eq__ : FnScope ["self", "other"] ["self", "other"] (defScope s_Plan___eq__) := ⟨rfl, rfl, rfl, by decide +kernel, rfl, by decide +kernel, by decide +kernel⟩
abbrev s_Plan___str__ : Stmt := inClass (topS 31) 9
theorem sc_Plan___str__ : FnScope ["self", "block"] ["self"] (defScope s_Plan___str__) := ⟨rfl, rfl, rfl, by decide +kernel, rfl, by decide +kernel, by decide +kernel⟩
abbrev s_Plan_read : Stmt := inClass (topS 31) 10
theorem sc_Plan_read : FnScope ["cls", "text"] ["cls", "text"] (defScope s_Plan_read) := ⟨rfl, rfl, rfl, by decide +kernel, rfl, by decide +kernel, by decide +kernel⟩
abbrev s_Slip___init__ : Stmt := inClass (topS 39) 0
theorem sc_Slip___init__ : FnScope ["self", "kind", "turn", "machine", "lane"] ["self", "kind", "turn", "machine", "lane"] (defScope s_Slip___init__) := ⟨rfl, rfl, rfl, by decide +kernel, rfl, by decide +kernel, by decide +kernel⟩
abbrev s_Played___init__ : Stmt := inClass (topS 40) 0
theorem sc_Played___init__ : FnScope ["self", "rows", "sums", "sent"] ["self", "rows", "sums", "sent"] (defScope s_Played___init__) := ⟨rfl, rfl, rfl, by decide +kernel, rfl, by decide +kernel, by decide +kernel⟩
abbrev s_is_whole : Stmt := topS 13
theorem sc_is_whole : FnScope ["value"] ["value"] (defScope s_is_whole) := ⟨rfl, rfl, rfl, by decide +kernel, rfl, by decide +kernel, by decide +kernel⟩
abbrev s_is_number : Stmt := topS 14
theorem sc_is_number : FnScope ["value"] ["value"] (defScope s_is_number) := ⟨rfl, rfl, rfl, by decide +kernel, rfl, by decide +kernel, by decide +kernel⟩
abbrev s_is_sequence : Stmt := topS 15
theorem sc_is_sequence : FnScope ["value"] ["value"] (defScope s_is_sequence) := ⟨rfl, rfl, rfl, by decide +kernel, rfl, by decide +kernel, by decide +kernel⟩
abbrev s_whole_in : Stmt := topS 16
theorem sc_whole_in : FnScope ["word", "digits"] ["word"] (defScope s_whole_in) := ⟨rfl, rfl, rfl, by decide +kernel, rfl, by decide +kernel, by decide +kernel⟩
abbrev s__text : Stmt := topS 19
theorem sc__text : FnScope ["times", "plus", "by", "upper"] ["times", "plus", "by"] (defScope s__text) := ⟨rfl, rfl, rfl, by decide +kernel, rfl, by decide +kernel, by decide +kernel⟩
abbrev s__upper : Stmt := topS 20
theorem sc__upper : FnScope ["times", "plus", "front"] ["times", "plus"] (defScope s__upper) := ⟨rfl, rfl, rfl, by decide +kernel, rfl, by decide +kernel, by decide +kernel⟩
abbrev s__parts : Stmt := topS 21
theorem sc__parts : FnScope ["text", "upper", "by", "_", "lower", "times", "plus"] ["text"] (defScope s__parts) := ⟨rfl, rfl, rfl, by decide +kernel, rfl, by decide +kernel, by decide +kernel⟩
abbrev s__upper_parts : Stmt := topS 22
theorem sc__upper_parts : FnScope ["upper", "front", "mark", "behind", "plus"] ["upper"] (defScope s__upper_parts) := ⟨rfl, rfl, rfl, by decide +kernel, rfl, by decide +kernel, by decide +kernel⟩
abbrev s__factor : Stmt := topS 23
theorem sc__factor : FnScope ["word"] ["word"] (defScope s__factor) := ⟨rfl, rfl, rfl, by decide +kernel, rfl, by decide +kernel, by decide +kernel⟩
abbrev s__blocks_in : Stmt := topS 32
theorem sc__blocks_in : FnScope ["lines", "found", "at", "line", "rounds", "lane", "lanes"] ["lines"] (defScope s__blocks_in) := ⟨rfl, rfl, rfl, by decide +kernel, rfl, by decide +kernel, by decide +kernel⟩
abbrev s__rounds_in : Stmt := topS 33
theorem sc__rounds_in : FnScope ["line", "word", "_", "text"] ["line"] (defScope s__rounds_in) := ⟨rfl, rfl, rfl, by decide +kernel, rfl, by decide +kernel, by decide +kernel⟩
abbrev s__lane_in : Stmt := topS 34
theorem sc__lane_in : FnScope ["line", "words", "way", "sign", "shift", "deed"] ["line"] (defScope s__lane_in) := ⟨rfl, rfl, rfl, by decide +kernel, rfl, by decide +kernel, by decide +kernel⟩
abbrev s_cuts : Stmt := topS 38
theorem sc_cuts : FnScope ["length", "n", "piece"] ["length", "n"] (defScope s_cuts) := ⟨rfl, rfl, rfl, by decide +kernel, rfl, by decide +kernel, by decide +kernel⟩
abbrev s_play : Stmt := topS 41
theorem sc_play : FnScope ["plan", "rows", "slips", "n", "turns", "numbered", "ends"] ["plan", "rows", "slips"] (defScope s_play) := ⟨rfl, rfl, rfl, by decide +kernel, rfl, by decide +kernel, by decide +kernel⟩
abbrev s_rows_after : Stmt := topS 42
theorem sc_rows_after : FnScope ["rows", "turns", "comings", "piece", "cells"] ["rows", "turns", "comings"] (defScope s_rows_after) := ⟨rfl, rfl, rfl, by decide +kernel, rfl, by decide +kernel, by decide +kernel⟩
abbrev s__cells_after : Stmt := topS 43
theorem sc__cells_after : FnScope ["piece", "cells", "turns", "comings", "turn", "block", "t", "hops"] ["piece", "cells", "turns", "comings"] (defScope s__cells_after) := ⟨rfl, rfl, rfl, by decide +kernel, rfl, by decide +kernel, by decide +kernel⟩
abbrev s_check_rows : Stmt := topS 44
theorem sc_check_rows : FnScope ["rows", "at", "row"] ["rows"] (defScope s_check_rows) := ⟨rfl, rfl, rfl, by decide +kernel, rfl, by decide +kernel, by decide +kernel⟩
abbrev s__is_row : Stmt := topS 45
theorem sc__is_row : FnScope ["row", "number"] ["row"] (defScope s__is_row) := ⟨rfl, rfl, rfl, by decide +kernel, rfl, by decide +kernel, by decide +kernel⟩
abbrev s_comings_of : Stmt := topS 46
theorem sc_comings_of : FnScope ["slips", "turns", "n", "comings", "at", "slip", "sending"] ["slips", "turns", "n"] (defScope s_comings_of) := ⟨rfl, rfl, rfl, by decide +kernel, rfl, by decide +kernel, by decide +kernel⟩
abbrev s__is_there : Stmt := topS 47
theorem sc__is_there : FnScope ["slip", "turns", "n", "block", "_"] ["slip", "turns", "n"] (defScope s__is_there) := ⟨rfl, rfl, rfl, by decide +kernel, rfl, by decide +kernel, by decide +kernel⟩
abbrev s_turns_of : Stmt := topS 48
theorem sc_turns_of : FnScope ["plan", "n", "block", "t"] ["plan", "n"] (defScope s_turns_of) := ⟨rfl, rfl, rfl, by decide +kernel, rfl, by decide +kernel, by decide +kernel⟩
abbrev s_drift : Stmt := topS 49
theorem sc_drift : FnScope ["lane", "t", "n", "along"] ["lane", "t", "n"] (defScope s_drift) := ⟨rfl, rfl, rfl, by decide +kernel, rfl, by decide +kernel, by decide +kernel⟩
abbrev s_hops_in : Stmt := topS 50
theorem sc_hops_in : FnScope ["block", "t", "n", "piece", "hops", "lane", "machine"] ["block", "t", "n", "piece"] (defScope s_hops_in) := ⟨rfl, rfl, rfl, by decide +kernel, rfl, by decide +kernel, by decide +kernel⟩
abbrev s_with_slips : Stmt := topS 51
theorem sc_with_slips : FnScope ["hops", "turn", "comings", "lane", "hop", "_"] ["hops", "turn", "comings"] (defScope s_with_slips) := ⟨rfl, rfl, rfl, by decide +kernel, rfl, by decide +kernel, by decide +kernel⟩
abbrev s_do_hops : Stmt := topS 52
theorem sc_do_hops : FnScope ["cells", "hops", "after", "machine", "goal", "deed"] ["cells", "hops"] (defScope s_do_hops) := ⟨rfl, rfl, rfl, by decide +kernel, rfl, by decide +kernel, by decide +kernel⟩
abbrev s_added : Stmt := topS 53
theorem sc_added : FnScope ["own", "came", "number", "other"] ["own", "came"] (defScope s_added) := ⟨rfl, rfl, rfl, by decide +kernel, rfl, by decide +kernel, by decide +kernel⟩
abbrev s_columns_of : Stmt := topS 54
theorem sc_columns_of : FnScope ["rows", "row", "low", "high"] ["rows"] (defScope s_columns_of) := ⟨rfl, rfl, rfl, by decide +kernel, rfl, by decide +kernel, by decide +kernel⟩
abbrev s_rows_of : Stmt := topS 55
theorem sc_rows_of : FnScope ["columns", "column", "number", "machine"] ["columns"] (defScope s_rows_of) := ⟨rfl, rfl, rfl, by decide +kernel, rfl, by decide +kernel, by decide +kernel⟩
abbrev s_sums_of : Stmt := topS 56
theorem sc_sums_of : FnScope ["rows", "row", "at"] ["rows"] (defScope s_sums_of) := ⟨rfl, rfl, rfl, by decide +kernel, rfl, by decide +kernel, by decide +kernel⟩
abbrev s_are_all : Stmt := topS 57
theorem sc_are_all : FnScope ["rows", "sums", "row"] ["rows", "sums"] (defScope s_are_all) := ⟨rfl, rfl, rfl, by decide +kernel, rfl, by decide +kernel, by decide +kernel⟩
abbrev s_handed_on : Stmt := topS 58
theorem sc_handed_on : FnScope ["turns", "n", "length", "sizes", "low", "high", "sent", "block", "t", "lane", "ahead", "machine"] ["turns", "n", "length"] (defScope s_handed_on) := ⟨rfl, rfl, rfl, by decide +kernel, rfl, by decide +kernel, by decide +kernel⟩
abbrev s__law_box : Stmt := topS 60
theorem sc__law_box : FnScope ["_law_script", "_law_k", "_law_own", "_law_cell", "_law_seed"] ["_law_script", "_law_k", "_law_own"] (defScope s__law_box) := ⟨rfl, rfl, rfl, by decide +kernel, rfl, by decide +kernel, by decide +kernel⟩
abbrev s__law_take : Stmt := topS 61
theorem sc__law_take : FnScope ["_law_box_here", "_law_many", "_law_digit", "_law_raw", "_law_wide"] ["_law_box_here", "_law_many"] (defScope s__law_take) := ⟨rfl, rfl, rfl, by decide +kernel, rfl, by decide +kernel, by decide +kernel⟩
abbrev s__law_pick : Stmt := topS 62
theorem sc__law_pick : FnScope ["_law_box_here", "_law_items"] ["_law_box_here", "_law_items"] (defScope s__law_pick) := ⟨rfl, rfl, rfl, by decide +kernel, rfl, by decide +kernel, by decide +kernel⟩
abbrev s__law_form_text : Stmt := topS 63
theorem sc__law_form_text : FnScope ["_law_form", "_law_times", "_law_plus", "_law_by", "_law_upper"] ["_law_form"] (defScope s__law_form_text) := ⟨rfl, rfl, rfl, by decide +kernel, rfl, by decide +kernel, by decide +kernel⟩
abbrev s__law_plan_text : Stmt := topS 64
theorem sc__law_plan_text : FnScope ["_law_drawn", "_law_lines", "_law_form", "_law_lanes", "_law_lane"] ["_law_drawn"] (defScope s__law_plan_text) := ⟨rfl, rfl, rfl, by decide +kernel, rfl, by decide +kernel, by decide +kernel⟩
abbrev s__law_plan_of : Stmt := topS 65
theorem sc__law_plan_of : FnScope ["_law_drawn"] ["_law_drawn"] (defScope s__law_plan_of) := ⟨rfl, rfl, rfl, by decide +kernel, rfl, by decide +kernel, by decide +kernel⟩
abbrev s__law_usual : Stmt := topS 66
theorem sc__law_usual : FnScope ["_law_box_here", "_law_form", "_law_lanes"] ["_law_box_here"] (defScope s__law_usual) := ⟨rfl, rfl, rfl, by decide +kernel, rfl, by decide +kernel, by decide +kernel⟩
abbrev s__law_integer : Stmt := topS 67
theorem sc__law_integer : FnScope ["_law_box_here"] ["_law_box_here"] (defScope s__law_integer) := ⟨rfl, rfl, rfl, by decide +kernel, rfl, by decide +kernel, by decide +kernel⟩
abbrev s__law_rows : Stmt := topS 68
theorem sc__law_rows : FnScope ["_law_box_here", "_law_n", "_law_size", "_law_found", "_law_turn", "_law_spot"] ["_law_box_here", "_law_n", "_law_size"] (defScope s__law_rows) := ⟨rfl, rfl, rfl, by decide +kernel, rfl, by decide +kernel, by decide +kernel⟩
abbrev s__law_any : Stmt := topS 69
theorem sc__law_any : FnScope ["_law_box_here", "_law_deep", "_law_odd", "_law_some", "_law_turn"] ["_law_box_here", "_law_deep"] (defScope s__law_any) := ⟨rfl, rfl, rfl, by decide +kernel, rfl, by decide +kernel, by decide +kernel⟩
abbrev s__law_due : Stmt := topS 70
theorem sc__law_due : FnScope ["_law_value", "_law_at", "_law_row", "_law_one"] ["_law_value"] (defScope s__law_due) := ⟨rfl, rfl, rfl, by decide +kernel, rfl, by decide +kernel, by decide +kernel⟩
abbrev s__law_refused : Stmt := topS 71
theorem sc__law_refused : FnScope ["_law_made", "_law_value", "_law_slips", "_law_found", "e"] ["_law_made", "_law_value", "_law_slips"] (defScope s__law_refused) := ⟨rfl, rfl, rfl, by decide +kernel, rfl, by decide +kernel, by decide +kernel⟩
abbrev s_law : Stmt := topS 72
theorem sc_law : FnScope ["_law_script", "_law_k", "_law_box_here", "_law_made", "_law_far", "_law_turn", "_law_rows_here", "_law_at", "_law_size", "_law_odd", "_law_bent", "_law_value"] ["_law_script"] (defScope s_law) := ⟨rfl, rfl, rfl, by decide +kernel, rfl, by decide +kernel, by decide +kernel⟩
/-- what the top has written -/
structure Txt (K : PySem.W.Frag) (mg : Str → Option Value) where
  c_RingError : Addr
  m_RingError : mg "RingError" = some (.ref c_RingError)
  c_InvalidPlan : Addr
  m_InvalidPlan : mg "InvalidPlan" = some (.ref c_InvalidPlan)
  c_InvalidRows : Addr
  m_InvalidRows : mg "InvalidRows" = some (.ref c_InvalidRows)
  a_InvalidRows___init__ : Addr
  d_InvalidRows___init__ : FuncData
  F_InvalidRows___init__ : Fun K "__init__" "InvalidRows.__init__" s_InvalidRows___init__ a_InvalidRows___init__ d_InvalidRows___init__
  b_InvalidRows___init__ : Binds K d_InvalidRows___init__ ["self", "at"] []
  k_InvalidRows___init__ : PySem.W.keepIn K (.ref a_InvalidRows___init__) = true
  x_InvalidRows : OexC K c_InvalidRows
  X_InvalidRows : ExX K c_InvalidRows
  f_InvalidRows : XfC K c_InvalidRows
  n_InvalidRows : PySem.W.findIn K (.ref c_InvalidRows) "at" = some none
  i_InvalidRows : PySem.W.findIn K (.ref c_InvalidRows) "__init__" = some (some (.ref a_InvalidRows___init__))
  t_InvalidRows : PySem.W.typeIn K (.ref a_InvalidRows___init__) = some (.type "function")
  e_InvalidRows : PySem.W.exmOne K (.ref c_InvalidRows) (.ref c_InvalidRows) = some true
  c_InvalidSlip : Addr
  m_InvalidSlip : mg "InvalidSlip" = some (.ref c_InvalidSlip)
  a_InvalidSlip___init__ : Addr
  d_InvalidSlip___init__ : FuncData
  F_InvalidSlip___init__ : Fun K "__init__" "InvalidSlip.__init__" s_InvalidSlip___init__ a_InvalidSlip___init__ d_InvalidSlip___init__
  b_InvalidSlip___init__ : Binds K d_InvalidSlip___init__ ["self", "word"] []
  k_InvalidSlip___init__ : PySem.W.keepIn K (.ref a_InvalidSlip___init__) = true
  x_InvalidSlip : OexC K c_InvalidSlip
  X_InvalidSlip : ExX K c_InvalidSlip
  f_InvalidSlip : XfC K c_InvalidSlip
  n_InvalidSlip : PySem.W.findIn K (.ref c_InvalidSlip) "word" = some none
  i_InvalidSlip : PySem.W.findIn K (.ref c_InvalidSlip) "__init__" = some (some (.ref a_InvalidSlip___init__))
  t_InvalidSlip : PySem.W.typeIn K (.ref a_InvalidSlip___init__) = some (.type "function")
  e_InvalidSlip : PySem.W.exmOne K (.ref c_InvalidSlip) (.ref c_InvalidSlip) = some true
  c_Refused : Addr
  m_Refused : mg "Refused" = some (.ref c_Refused)
  a_Refused___init__ : Addr
  d_Refused___init__ : FuncData
  F_Refused___init__ : Fun K "__init__" "Refused.__init__" s_Refused___init__ a_Refused___init__ d_Refused___init__
  b_Refused___init__ : Binds K d_Refused___init__ ["self", "at"] []
  k_Refused___init__ : PySem.W.keepIn K (.ref a_Refused___init__) = true
  x_Refused : OexC K c_Refused
  X_Refused : ExX K c_Refused
  f_Refused : XfC K c_Refused
  n_Refused : PySem.W.findIn K (.ref c_Refused) "at" = some none
  i_Refused : PySem.W.findIn K (.ref c_Refused) "__init__" = some (some (.ref a_Refused___init__))
  t_Refused : PySem.W.typeIn K (.ref a_Refused___init__) = some (.type "function")
  e_Refused : PySem.W.exmOne K (.ref c_Refused) (.ref c_Refused) = some true
  c_Form : Addr
  m_Form : mg "Form" = some (.ref c_Form)
  C_Form : Cls K c_Form
  n_Form_times : NoAttr K c_Form "times"
  n_Form_plus : NoAttr K c_Form "plus"
  n_Form_by : NoAttr K c_Form "by"
  F_Form : FmtO K c_Form
  I_Form : OwnI K c_Form
  N_Form : OwnN K c_Form
  a_Form___init__ : Addr
  d_Form___init__ : FuncData
  F_Form___init__ : FunD K "__init__" "Form.__init__" (defArgs s_Form___init__) (defBody s_Form___init__) (defScope s_Form___init__) [(.int 0), (.int 0), (.int 1)] [] a_Form___init__ d_Form___init__
  b_Form___init__ : Binds K d_Form___init__ ["self", "times", "plus", "by"] []
  k_Form___init__ : PySem.W.keepIn K (.ref a_Form___init__) = true
  D_Form___init__ : ∃ ds, Vals [.int 0, .int 0, .int 1] ds ∧ Binds K d_Form___init__ ["self", "times", "plus", "by"] ds
  D1_Form___init__ : ∃ ds, Vals [.int 0, .int 1] ds ∧ Binds K d_Form___init__ ["self", "times", "plus", "by"] ds
  D2_Form___init__ : ∃ ds, Vals [.int 1] ds ∧ Binds K d_Form___init__ ["self", "times", "plus", "by"] ds
  M_Form : Mk K c_Form a_Form___init__
  a_Form___call__ : Addr
  d_Form___call__ : FuncData
  F_Form___call__ : Fun K "__call__" "Form.__call__" s_Form___call__ a_Form___call__ d_Form___call__
  b_Form___call__ : Binds K d_Form___call__ ["self", "n"] []
  k_Form___call__ : PySem.W.keepIn K (.ref a_Form___call__) = true
  fn_Form___call__ : PySem.W.fnIn K a_Form___call__ = true
  M_Form___call__ : Meth K c_Form "__call__" a_Form___call__
  a_Form___eq__ : Addr
  d_Form___eq__ : FuncData
  F_Form___eq__ : Fun K "__eq__" "Form.__eq__" s_Form___eq__ a_Form___eq__ d_Form___eq__
  b_Form___eq__ : Binds K d_Form___eq__ ["self", "other"] []
  k_Form___eq__ : PySem.W.keepIn K (.ref a_Form___eq__) = true
  O_Form : OwnQ K c_Form a_Form___eq__
  a_Form___str__ : Addr
  d_Form___str__ : FuncData
  F_Form___str__ : Fun K "__str__" "Form.__str__" s_Form___str__ a_Form___str__ d_Form___str__
  b_Form___str__ : Binds K d_Form___str__ ["self"] []
  k_Form___str__ : PySem.W.keepIn K (.ref a_Form___str__) = true
  M_Form___str__ : Meth K c_Form "__str__" a_Form___str__
  a_Form_read : Addr
  d_Form_read : FuncData
  F_Form_read : Fun K "read" "Form.read" s_Form_read a_Form_read d_Form_read
  b_Form_read : Binds K d_Form_read ["cls", "text"] []
  k_Form_read : PySem.W.keepIn K (.ref a_Form_read) = true
  R_Form : ClX.CRead K c_Form (.type "type")
  p_Form_read : Addr
  G_Form_read : ClX.CMet K c_Form (.type "type") "read" p_Form_read a_Form_read
  c_Lane : Addr
  m_Lane : mg "Lane" = some (.ref c_Lane)
  C_Lane : Cls K c_Lane
  n_Lane_way : NoAttr K c_Lane "way"
  n_Lane_sign : NoAttr K c_Lane "sign"
  n_Lane_shift : NoAttr K c_Lane "shift"
  n_Lane_deed : NoAttr K c_Lane "deed"
  I_Lane : OwnI K c_Lane
  N_Lane : OwnN K c_Lane
  a_Lane___init__ : Addr
  d_Lane___init__ : FuncData
  F_Lane___init__ : Fun K "__init__" "Lane.__init__" s_Lane___init__ a_Lane___init__ d_Lane___init__
  b_Lane___init__ : Binds K d_Lane___init__ ["self", "way", "sign", "shift", "deed"] []
  k_Lane___init__ : PySem.W.keepIn K (.ref a_Lane___init__) = true
  M_Lane : Mk K c_Lane a_Lane___init__
  a_Lane___eq__ : Addr
  d_Lane___eq__ : FuncData
  F_Lane___eq__ : Fun K "__eq__" "Lane.__eq__" s_Lane___eq__ a_Lane___eq__ d_Lane___eq__
  b_Lane___eq__ : Binds K d_Lane___eq__ ["self", "other"] []
  k_Lane___eq__ : PySem.W.keepIn K (.ref a_Lane___eq__) = true
  O_Lane : OwnQ K c_Lane a_Lane___eq__
  a_Lane___str__ : Addr
  d_Lane___str__ : FuncData
  F_Lane___str__ : Fun K "__str__" "Lane.__str__" s_Lane___str__ a_Lane___str__ d_Lane___str__
  b_Lane___str__ : Binds K d_Lane___str__ ["self"] []
  k_Lane___str__ : PySem.W.keepIn K (.ref a_Lane___str__) = true
  M_Lane___str__ : Meth K c_Lane "__str__" a_Lane___str__
  c_Block : Addr
  m_Block : mg "Block" = some (.ref c_Block)
  C_Block : Cls K c_Block
  n_Block_rounds : NoAttr K c_Block "rounds"
  n_Block_lanes : NoAttr K c_Block "lanes"
  I_Block : OwnI K c_Block
  N_Block : OwnN K c_Block
  a_Block___init__ : Addr
  d_Block___init__ : FuncData
  F_Block___init__ : Fun K "__init__" "Block.__init__" s_Block___init__ a_Block___init__ d_Block___init__
  b_Block___init__ : Binds K d_Block___init__ ["self", "rounds", "lanes"] []
  k_Block___init__ : PySem.W.keepIn K (.ref a_Block___init__) = true
  M_Block : Mk K c_Block a_Block___init__
  a_Block___eq__ : Addr
  d_Block___eq__ : FuncData
  F_Block___eq__ : Fun K "__eq__" "Block.__eq__" s_Block___eq__ a_Block___eq__ d_Block___eq__
  b_Block___eq__ : Binds K d_Block___eq__ ["self", "other"] []
  k_Block___eq__ : PySem.W.keepIn K (.ref a_Block___eq__) = true
  O_Block : OwnQ K c_Block a_Block___eq__
  a_Block___str__ : Addr
  d_Block___str__ : FuncData
  F_Block___str__ : Fun K "__str__" "Block.__str__" s_Block___str__ a_Block___str__ d_Block___str__
  b_Block___str__ : Binds K d_Block___str__ ["self"] []
  k_Block___str__ : PySem.W.keepIn K (.ref a_Block___str__) = true
  M_Block___str__ : Meth K c_Block "__str__" a_Block___str__
  c_Plan : Addr
  m_Plan : mg "Plan" = some (.ref c_Plan)
  C_Plan : Cls K c_Plan
  n_Plan_blocks : NoAttr K c_Plan "blocks"
  n_Plan_found : NoAttr K c_Plan "found"
  I_Plan : OwnI K c_Plan
  N_Plan : OwnN K c_Plan
  e_Plan___init___0 : Addr
  a_Plan___init__ : Addr
  d_Plan___init__ : FuncData
  F_Plan___init__ : FunD K "__init__" "Plan.__init__" (defArgs s_Plan___init__) (defBody s_Plan___init__) (defScope s_Plan___init__) [(.ref e_Plan___init___0)] [] a_Plan___init__ d_Plan___init__
  b_Plan___init__ : Binds K d_Plan___init__ ["self", "blocks"] []
  k_Plan___init__ : PySem.W.keepIn K (.ref a_Plan___init__) = true
  D_Plan___init__ : ∃ ds, Vals [.ref e_Plan___init___0] ds ∧ Binds K d_Plan___init__ ["self", "blocks"] ds
  E_Plan___init___0 : ∀ H, SqT K H e_Plan___init___0 []
  M_Plan : Mk K c_Plan a_Plan___init__
  a_Plan_all_rounds : Addr
  d_Plan_all_rounds : FuncData
  F_Plan_all_rounds : Fun K "all_rounds" "Plan.all_rounds" s_Plan_all_rounds a_Plan_all_rounds d_Plan_all_rounds
  b_Plan_all_rounds : Binds K d_Plan_all_rounds ["self", "n"] []
  k_Plan_all_rounds : PySem.W.keepIn K (.ref a_Plan_all_rounds) = true
  M_Plan_all_rounds : Meth K c_Plan "all_rounds" a_Plan_all_rounds
  a_Plan___eq__ : Addr
  d_Plan___eq__ : FuncData
  F_Plan___eq__ : Fun K "__eq__" "Plan.__eq__" s_Plan___eq__ a_Plan___eq__ d_Plan___eq__
  b_Plan___eq__ : Binds K d_Plan___eq__ ["self", "other"] []
  k_Plan___eq__ : PySem.W.keepIn K (.ref a_Plan___eq__) = true
  O_Plan : OwnQ K c_Plan a_Plan___eq__
  a_Plan___str__ : Addr
  d_Plan___str__ : FuncData
  F_Plan___str__ : Fun K "__str__" "Plan.__str__" s_Plan___str__ a_Plan___str__ d_Plan___str__
  b_Plan___str__ : Binds K d_Plan___str__ ["self"] []
  k_Plan___str__ : PySem.W.keepIn K (.ref a_Plan___str__) = true
  M_Plan___str__ : Meth K c_Plan "__str__" a_Plan___str__
  a_Plan_read : Addr
  d_Plan_read : FuncData
  F_Plan_read : Fun K "read" "Plan.read" s_Plan_read a_Plan_read d_Plan_read
  b_Plan_read : Binds K d_Plan_read ["cls", "text"] []
  k_Plan_read : PySem.W.keepIn K (.ref a_Plan_read) = true
  R_Plan : ClX.CRead K c_Plan (.type "type")
  p_Plan_read : Addr
  G_Plan_read : ClX.CMet K c_Plan (.type "type") "read" p_Plan_read a_Plan_read
  c_Slip : Addr
  m_Slip : mg "Slip" = some (.ref c_Slip)
  C_Slip : Cls K c_Slip
  n_Slip_kind : NoAttr K c_Slip "kind"
  n_Slip_turn : NoAttr K c_Slip "turn"
  n_Slip_machine : NoAttr K c_Slip "machine"
  n_Slip_lane : NoAttr K c_Slip "lane"
  a_Slip___init__ : Addr
  d_Slip___init__ : FuncData
  F_Slip___init__ : Fun K "__init__" "Slip.__init__" s_Slip___init__ a_Slip___init__ d_Slip___init__
  b_Slip___init__ : Binds K d_Slip___init__ ["self", "kind", "turn", "machine", "lane"] []
  k_Slip___init__ : PySem.W.keepIn K (.ref a_Slip___init__) = true
  M_Slip : Mk K c_Slip a_Slip___init__
  c_Played : Addr
  m_Played : mg "Played" = some (.ref c_Played)
  C_Played : Cls K c_Played
  n_Played_rows : NoAttr K c_Played "rows"
  n_Played_sums : NoAttr K c_Played "sums"
  n_Played_is_right : NoAttr K c_Played "is_right"
  n_Played_sent : NoAttr K c_Played "sent"
  a_Played___init__ : Addr
  d_Played___init__ : FuncData
  F_Played___init__ : Fun K "__init__" "Played.__init__" s_Played___init__ a_Played___init__ d_Played___init__
  b_Played___init__ : Binds K d_Played___init__ ["self", "rows", "sums", "sent"] []
  k_Played___init__ : PySem.W.keepIn K (.ref a_Played___init__) = true
  M_Played : Mk K c_Played a_Played___init__
  kit_Lane_Form : PySem.W.kitOne K (.ref c_Lane) (.ref c_Form) = some false
  kit_Block_Lane : PySem.W.kitOne K (.ref c_Block) (.ref c_Lane) = some false
  kit_InvalidRows_RingError : PySem.W.kitOne K (.ref c_InvalidRows) (.ref c_RingError) = some true
  kit_InvalidRows_InvalidPlan : PySem.W.kitOne K (.ref c_InvalidRows) (.ref c_InvalidPlan) = some false
  kit_InvalidRows_InvalidSlip : PySem.W.kitOne K (.ref c_InvalidRows) (.ref c_InvalidSlip) = some false
  A_WAYS : Addr
  m_WAYS : mg "WAYS" = some (.ref A_WAYS)
  s_WAYS : ∀ H, SqT K H A_WAYS [.str "up", .str "down"]
  A_SIGNS : Addr
  m_SIGNS : mg "SIGNS" = some (.ref A_SIGNS)
  s_SIGNS : ∀ H, SqT K H A_SIGNS [.str "+", .str "-"]
  A_DEEDS : Addr
  m_DEEDS : mg "DEEDS" = some (.ref A_DEEDS)
  s_DEEDS : ∀ H, SqT K H A_DEEDS [.str "add", .str "put"]
  A_STEPS : Addr
  m_STEPS : mg "STEPS" = some (.ref A_STEPS)
  A_KINDS : Addr
  m_KINDS : mg "KINDS" = some (.ref A_KINDS)
  s_KINDS : ∀ H, SqT K H A_KINDS [.str "again", .str "lost"]
  A_COMINGS : Addr
  m_COMINGS : mg "COMINGS" = some (.ref A_COMINGS)
  a_is_whole : Addr
  d_is_whole : FuncData
  F_is_whole : Fun K "is_whole" "is_whole" s_is_whole a_is_whole d_is_whole
  b_is_whole : Binds K d_is_whole ["value"] []
  k_is_whole : PySem.W.keepIn K (.ref a_is_whole) = true
  m_is_whole : mg "is_whole" = some (.ref a_is_whole)
  a_is_number : Addr
  d_is_number : FuncData
  F_is_number : Fun K "is_number" "is_number" s_is_number a_is_number d_is_number
  b_is_number : Binds K d_is_number ["value"] []
  k_is_number : PySem.W.keepIn K (.ref a_is_number) = true
  m_is_number : mg "is_number" = some (.ref a_is_number)
  a_is_sequence : Addr
  d_is_sequence : FuncData
  F_is_sequence : Fun K "is_sequence" "is_sequence" s_is_sequence a_is_sequence d_is_sequence
  b_is_sequence : Binds K d_is_sequence ["value"] []
  k_is_sequence : PySem.W.keepIn K (.ref a_is_sequence) = true
  m_is_sequence : mg "is_sequence" = some (.ref a_is_sequence)
  a_whole_in : Addr
  d_whole_in : FuncData
  F_whole_in : Fun K "whole_in" "whole_in" s_whole_in a_whole_in d_whole_in
  b_whole_in : Binds K d_whole_in ["word"] []
  k_whole_in : PySem.W.keepIn K (.ref a_whole_in) = true
  m_whole_in : mg "whole_in" = some (.ref a_whole_in)
  a__text : Addr
  d__text : FuncData
  F__text : Fun K "_text" "_text" s__text a__text d__text
  b__text : Binds K d__text ["times", "plus", "by"] []
  k__text : PySem.W.keepIn K (.ref a__text) = true
  m__text : mg "_text" = some (.ref a__text)
  a__upper : Addr
  d__upper : FuncData
  F__upper : Fun K "_upper" "_upper" s__upper a__upper d__upper
  b__upper : Binds K d__upper ["times", "plus"] []
  k__upper : PySem.W.keepIn K (.ref a__upper) = true
  m__upper : mg "_upper" = some (.ref a__upper)
  a__parts : Addr
  d__parts : FuncData
  F__parts : Fun K "_parts" "_parts" s__parts a__parts d__parts
  b__parts : Binds K d__parts ["text"] []
  k__parts : PySem.W.keepIn K (.ref a__parts) = true
  m__parts : mg "_parts" = some (.ref a__parts)
  a__upper_parts : Addr
  d__upper_parts : FuncData
  F__upper_parts : Fun K "_upper_parts" "_upper_parts" s__upper_parts a__upper_parts d__upper_parts
  b__upper_parts : Binds K d__upper_parts ["upper"] []
  k__upper_parts : PySem.W.keepIn K (.ref a__upper_parts) = true
  m__upper_parts : mg "_upper_parts" = some (.ref a__upper_parts)
  a__factor : Addr
  d__factor : FuncData
  F__factor : Fun K "_factor" "_factor" s__factor a__factor d__factor
  b__factor : Binds K d__factor ["word"] []
  k__factor : PySem.W.keepIn K (.ref a__factor) = true
  m__factor : mg "_factor" = some (.ref a__factor)
  a__blocks_in : Addr
  d__blocks_in : FuncData
  F__blocks_in : Fun K "_blocks_in" "_blocks_in" s__blocks_in a__blocks_in d__blocks_in
  b__blocks_in : Binds K d__blocks_in ["lines"] []
  k__blocks_in : PySem.W.keepIn K (.ref a__blocks_in) = true
  m__blocks_in : mg "_blocks_in" = some (.ref a__blocks_in)
  a__rounds_in : Addr
  d__rounds_in : FuncData
  F__rounds_in : Fun K "_rounds_in" "_rounds_in" s__rounds_in a__rounds_in d__rounds_in
  b__rounds_in : Binds K d__rounds_in ["line"] []
  k__rounds_in : PySem.W.keepIn K (.ref a__rounds_in) = true
  m__rounds_in : mg "_rounds_in" = some (.ref a__rounds_in)
  a__lane_in : Addr
  d__lane_in : FuncData
  F__lane_in : Fun K "_lane_in" "_lane_in" s__lane_in a__lane_in d__lane_in
  b__lane_in : Binds K d__lane_in ["line"] []
  k__lane_in : PySem.W.keepIn K (.ref a__lane_in) = true
  m__lane_in : mg "_lane_in" = some (.ref a__lane_in)
  a_cuts : Addr
  d_cuts : FuncData
  F_cuts : Fun K "cuts" "cuts" s_cuts a_cuts d_cuts
  b_cuts : Binds K d_cuts ["length", "n"] []
  k_cuts : PySem.W.keepIn K (.ref a_cuts) = true
  m_cuts : mg "cuts" = some (.ref a_cuts)
  e_play_0 : Addr
  a_play : Addr
  d_play : FuncData
  F_play : FunD K "play" "play" (defArgs s_play) (defBody s_play) (defScope s_play) [(.ref e_play_0)] [] a_play d_play
  b_play : Binds K d_play ["plan", "rows", "slips"] []
  k_play : PySem.W.keepIn K (.ref a_play) = true
  D_play : ∃ ds, Vals [.ref e_play_0] ds ∧ Binds K d_play ["plan", "rows", "slips"] ds
  E_play_0 : ∀ H, SqT K H e_play_0 []
  m_play : mg "play" = some (.ref a_play)
  a_rows_after : Addr
  d_rows_after : FuncData
  F_rows_after : Fun K "rows_after" "rows_after" s_rows_after a_rows_after d_rows_after
  b_rows_after : Binds K d_rows_after ["rows", "turns", "comings"] []
  k_rows_after : PySem.W.keepIn K (.ref a_rows_after) = true
  m_rows_after : mg "rows_after" = some (.ref a_rows_after)
  a__cells_after : Addr
  d__cells_after : FuncData
  F__cells_after : Fun K "_cells_after" "_cells_after" s__cells_after a__cells_after d__cells_after
  b__cells_after : Binds K d__cells_after ["piece", "cells", "turns", "comings"] []
  k__cells_after : PySem.W.keepIn K (.ref a__cells_after) = true
  m__cells_after : mg "_cells_after" = some (.ref a__cells_after)
  a_check_rows : Addr
  d_check_rows : FuncData
  F_check_rows : Fun K "check_rows" "check_rows" s_check_rows a_check_rows d_check_rows
  b_check_rows : Binds K d_check_rows ["rows"] []
  k_check_rows : PySem.W.keepIn K (.ref a_check_rows) = true
  m_check_rows : mg "check_rows" = some (.ref a_check_rows)
  a__is_row : Addr
  d__is_row : FuncData
  F__is_row : Fun K "_is_row" "_is_row" s__is_row a__is_row d__is_row
  b__is_row : Binds K d__is_row ["row"] []
  k__is_row : PySem.W.keepIn K (.ref a__is_row) = true
  m__is_row : mg "_is_row" = some (.ref a__is_row)
  a_comings_of : Addr
  d_comings_of : FuncData
  F_comings_of : Fun K "comings_of" "comings_of" s_comings_of a_comings_of d_comings_of
  b_comings_of : Binds K d_comings_of ["slips", "turns", "n"] []
  k_comings_of : PySem.W.keepIn K (.ref a_comings_of) = true
  m_comings_of : mg "comings_of" = some (.ref a_comings_of)
  a__is_there : Addr
  d__is_there : FuncData
  F__is_there : Fun K "_is_there" "_is_there" s__is_there a__is_there d__is_there
  b__is_there : Binds K d__is_there ["slip", "turns", "n"] []
  k__is_there : PySem.W.keepIn K (.ref a__is_there) = true
  m__is_there : mg "_is_there" = some (.ref a__is_there)
  a_turns_of : Addr
  d_turns_of : FuncData
  F_turns_of : Fun K "turns_of" "turns_of" s_turns_of a_turns_of d_turns_of
  b_turns_of : Binds K d_turns_of ["plan", "n"] []
  k_turns_of : PySem.W.keepIn K (.ref a_turns_of) = true
  m_turns_of : mg "turns_of" = some (.ref a_turns_of)
  a_drift : Addr
  d_drift : FuncData
  F_drift : Fun K "drift" "drift" s_drift a_drift d_drift
  b_drift : Binds K d_drift ["lane", "t", "n"] []
  k_drift : PySem.W.keepIn K (.ref a_drift) = true
  m_drift : mg "drift" = some (.ref a_drift)
  a_hops_in : Addr
  d_hops_in : FuncData
  F_hops_in : Fun K "hops_in" "hops_in" s_hops_in a_hops_in d_hops_in
  b_hops_in : Binds K d_hops_in ["block", "t", "n", "piece"] []
  k_hops_in : PySem.W.keepIn K (.ref a_hops_in) = true
  m_hops_in : mg "hops_in" = some (.ref a_hops_in)
  a_with_slips : Addr
  d_with_slips : FuncData
  F_with_slips : Fun K "with_slips" "with_slips" s_with_slips a_with_slips d_with_slips
  b_with_slips : Binds K d_with_slips ["hops", "turn", "comings"] []
  k_with_slips : PySem.W.keepIn K (.ref a_with_slips) = true
  m_with_slips : mg "with_slips" = some (.ref a_with_slips)
  a_do_hops : Addr
  d_do_hops : FuncData
  F_do_hops : Fun K "do_hops" "do_hops" s_do_hops a_do_hops d_do_hops
  b_do_hops : Binds K d_do_hops ["cells", "hops"] []
  k_do_hops : PySem.W.keepIn K (.ref a_do_hops) = true
  m_do_hops : mg "do_hops" = some (.ref a_do_hops)
  a_added : Addr
  d_added : FuncData
  F_added : Fun K "added" "added" s_added a_added d_added
  b_added : Binds K d_added ["own", "came"] []
  k_added : PySem.W.keepIn K (.ref a_added) = true
  m_added : mg "added" = some (.ref a_added)
  a_columns_of : Addr
  d_columns_of : FuncData
  F_columns_of : Fun K "columns_of" "columns_of" s_columns_of a_columns_of d_columns_of
  b_columns_of : Binds K d_columns_of ["rows"] []
  k_columns_of : PySem.W.keepIn K (.ref a_columns_of) = true
  m_columns_of : mg "columns_of" = some (.ref a_columns_of)
  a_rows_of : Addr
  d_rows_of : FuncData
  F_rows_of : Fun K "rows_of" "rows_of" s_rows_of a_rows_of d_rows_of
  b_rows_of : Binds K d_rows_of ["columns"] []
  k_rows_of : PySem.W.keepIn K (.ref a_rows_of) = true
  m_rows_of : mg "rows_of" = some (.ref a_rows_of)
  a_sums_of : Addr
  d_sums_of : FuncData
  F_sums_of : Fun K "sums_of" "sums_of" s_sums_of a_sums_of d_sums_of
  b_sums_of : Binds K d_sums_of ["rows"] []
  k_sums_of : PySem.W.keepIn K (.ref a_sums_of) = true
  m_sums_of : mg "sums_of" = some (.ref a_sums_of)
  a_are_all : Addr
  d_are_all : FuncData
  F_are_all : Fun K "are_all" "are_all" s_are_all a_are_all d_are_all
  b_are_all : Binds K d_are_all ["rows", "sums"] []
  k_are_all : PySem.W.keepIn K (.ref a_are_all) = true
  m_are_all : mg "are_all" = some (.ref a_are_all)
  a_handed_on : Addr
  d_handed_on : FuncData
  F_handed_on : Fun K "handed_on" "handed_on" s_handed_on a_handed_on d_handed_on
  b_handed_on : Binds K d_handed_on ["turns", "n", "length"] []
  k_handed_on : PySem.W.keepIn K (.ref a_handed_on) = true
  m_handed_on : mg "handed_on" = some (.ref a_handed_on)
  a__law_box : Addr
  d__law_box : FuncData
  F__law_box : Fun K "_law_box" "_law_box" s__law_box a__law_box d__law_box
  b__law_box : Binds K d__law_box ["_law_script", "_law_k", "_law_own"] []
  k__law_box : PySem.W.keepIn K (.ref a__law_box) = true
  m__law_box : mg "_law_box" = some (.ref a__law_box)
  a__law_take : Addr
  d__law_take : FuncData
  F__law_take : Fun K "_law_take" "_law_take" s__law_take a__law_take d__law_take
  b__law_take : Binds K d__law_take ["_law_box_here", "_law_many"] []
  k__law_take : PySem.W.keepIn K (.ref a__law_take) = true
  m__law_take : mg "_law_take" = some (.ref a__law_take)
  a__law_pick : Addr
  d__law_pick : FuncData
  F__law_pick : Fun K "_law_pick" "_law_pick" s__law_pick a__law_pick d__law_pick
  b__law_pick : Binds K d__law_pick ["_law_box_here", "_law_items"] []
  k__law_pick : PySem.W.keepIn K (.ref a__law_pick) = true
  m__law_pick : mg "_law_pick" = some (.ref a__law_pick)
  a__law_form_text : Addr
  d__law_form_text : FuncData
  F__law_form_text : Fun K "_law_form_text" "_law_form_text" s__law_form_text a__law_form_text d__law_form_text
  b__law_form_text : Binds K d__law_form_text ["_law_form"] []
  k__law_form_text : PySem.W.keepIn K (.ref a__law_form_text) = true
  m__law_form_text : mg "_law_form_text" = some (.ref a__law_form_text)
  a__law_plan_text : Addr
  d__law_plan_text : FuncData
  F__law_plan_text : Fun K "_law_plan_text" "_law_plan_text" s__law_plan_text a__law_plan_text d__law_plan_text
  b__law_plan_text : Binds K d__law_plan_text ["_law_drawn"] []
  k__law_plan_text : PySem.W.keepIn K (.ref a__law_plan_text) = true
  m__law_plan_text : mg "_law_plan_text" = some (.ref a__law_plan_text)
  a__law_plan_of : Addr
  d__law_plan_of : FuncData
  F__law_plan_of : Fun K "_law_plan_of" "_law_plan_of" s__law_plan_of a__law_plan_of d__law_plan_of
  b__law_plan_of : Binds K d__law_plan_of ["_law_drawn"] []
  k__law_plan_of : PySem.W.keepIn K (.ref a__law_plan_of) = true
  m__law_plan_of : mg "_law_plan_of" = some (.ref a__law_plan_of)
  a__law_usual : Addr
  d__law_usual : FuncData
  F__law_usual : Fun K "_law_usual" "_law_usual" s__law_usual a__law_usual d__law_usual
  b__law_usual : Binds K d__law_usual ["_law_box_here"] []
  k__law_usual : PySem.W.keepIn K (.ref a__law_usual) = true
  m__law_usual : mg "_law_usual" = some (.ref a__law_usual)
  a__law_integer : Addr
  d__law_integer : FuncData
  F__law_integer : Fun K "_law_integer" "_law_integer" s__law_integer a__law_integer d__law_integer
  b__law_integer : Binds K d__law_integer ["_law_box_here"] []
  k__law_integer : PySem.W.keepIn K (.ref a__law_integer) = true
  m__law_integer : mg "_law_integer" = some (.ref a__law_integer)
  a__law_rows : Addr
  d__law_rows : FuncData
  F__law_rows : Fun K "_law_rows" "_law_rows" s__law_rows a__law_rows d__law_rows
  b__law_rows : Binds K d__law_rows ["_law_box_here", "_law_n", "_law_size"] []
  k__law_rows : PySem.W.keepIn K (.ref a__law_rows) = true
  m__law_rows : mg "_law_rows" = some (.ref a__law_rows)
  a__law_any : Addr
  d__law_any : FuncData
  F__law_any : Fun K "_law_any" "_law_any" s__law_any a__law_any d__law_any
  b__law_any : Binds K d__law_any ["_law_box_here", "_law_deep"] []
  k__law_any : PySem.W.keepIn K (.ref a__law_any) = true
  m__law_any : mg "_law_any" = some (.ref a__law_any)
  a__law_due : Addr
  d__law_due : FuncData
  F__law_due : Fun K "_law_due" "_law_due" s__law_due a__law_due d__law_due
  b__law_due : Binds K d__law_due ["_law_value"] []
  k__law_due : PySem.W.keepIn K (.ref a__law_due) = true
  m__law_due : mg "_law_due" = some (.ref a__law_due)
  a__law_refused : Addr
  d__law_refused : FuncData
  F__law_refused : Fun K "_law_refused" "_law_refused" s__law_refused a__law_refused d__law_refused
  b__law_refused : Binds K d__law_refused ["_law_made", "_law_value", "_law_slips"] []
  k__law_refused : PySem.W.keepIn K (.ref a__law_refused) = true
  m__law_refused : mg "_law_refused" = some (.ref a__law_refused)
  a_law : Addr
  d_law : FuncData
  F_law : Fun K "law" "law" s_law a_law d_law
  b_law : Binds K d_law ["_law_script"] []
  k_law : PySem.W.keepIn K (.ref a_law) = true
  m_law : mg "law" = some (.ref a_law)
  z_abs : mg "abs" = none
  z_all : mg "all" = none
  z_bool : mg "bool" = none
  z_dict : mg "dict" = none
  z_enumerate : mg "enumerate" = none
  z_int : mg "int" = none
  z_isinstance : mg "isinstance" = none
  z_len : mg "len" = none
  z_list : mg "list" = none
  z_max : mg "max" = none
  z_min : mg "min" = none
  z_range : mg "range" = none
  z_repr : mg "repr" = none
  z_str : mg "str" = none
  z_sum : mg "sum" = none
  z_tuple : mg "tuple" = none
  z_zip : mg "zip" = none
section
variable {P : Program} {w : World} {K : PySem.W.Frag} {mg : Str → Option Value} {base : Heap}
def spTake : Sp := fun vs H Q _ => ∃ (b : Addr) (m : Int), vs = [.ref b, .int m] ∧ Box H b ∧ 0 < m ∧ m < 2 ^ 40 ∧
  ∀ (r : Int) (H' : Hp), 0 ≤ r → r < m → Box H' b → But b H H' → Q (.int r) H'
theorem ok_take (T : Txt K mg) : FnOk P w K mg base CX0 1 T.a__law_take T.d__law_take ["_law_box_here", "_law_many"] spTake := by
  refine T.F__law_take.ok sc__law_take (fun vs H Q E h => ?_) (fun cdv A outer s H vs Q E hr h => ?_)
  · obtain ⟨b, m, rfl, _⟩ := h
    rfl
  · obtain ⟨b, m, rfl, ⟨x, y, z, hb, ⟨x0, y1, y2⟩⟩, m0, m1, k⟩ := h
    have nd := sc__law_take.nd
    refine ⟨_, (pss_cons (ps_if (pt_cmpR op_gt (pe_ix ix_list (pv 0) pe_int (fun _ _ => rfl)) pe_int (nomark _)) (pss_cons (ps_set (i := 2) nd rfl (Or.inl rfl) (pe_op op_mod (pe_callTy call_int1 (by rfl) T.z_int (by decide +kernel) (pa_cons (pe_ix ix_list (pv 0) pe_int (fun _ _ => rfl)) pa_nil)) (pv 1)))
    (pss_cons (ps_asg (pe_op op_fdivW (pe_ix ix_list (pv 0) pe_int (fun _ _ => rfl)) (pv 1)) (pg_sub (pv 0) pe_int set_list))
    (pss_one (ps_ret (pv 2))))) pss_nil)
    (pss_cons (ps_asg (pe_op op_add (pe_ix ix_list (pv 0) pe_int (fun _ _ => rfl)) pe_int) (pg_sub (pv 0) pe_int set_list))
    (pss_cons (ps_set (i := 3) nd rfl (Or.inl rfl) (pe_op op_mod (pe_callTy call_int1 (by rfl) T.z_int (by decide +kernel) (pa_cons (pe_op op_mul (pe_op op_add (pe_ix ix_list (pv 0) pe_int (fun _ _ => rfl)) (pe_op op_mul pe_int (pe_ix ix_list (pv 0) pe_int (fun _ _ => rfl)))) pe_int) pa_nil)) pe_int))
    (pss_cons (ps_asg (pe_op op_add (pe_op op_mod (pe_callTy call_int1 (by rfl) T.z_int (by decide +kernel) (pa_cons (pe_op op_add (pe_op op_mul (pv 3) pe_int) pe_int) pa_nil)) pe_int) pe_int) (pg_sub (pv 0) pe_int set_list))
    (pss_cons (ps_if (pt_cmpR op_lt (pv 1) (pe_op op_pow pe_int pe_int) (nomark _)) (pss_one (ps_ret (pe_op op_mod (pe_callTy call_int1 (by rfl) T.z_int (by decide +kernel) (pa_cons (pe_op op_fdiv (pe_op op_add (pe_op op_mul (pv 3) pe_int) (pe_ix ix_list (pv 0) pe_int (fun _ _ => rfl))) pe_int) pa_nil)) (pv 1)))) pss_nil)
    (pss_cons (ps_set (i := 4) nd rfl (Or.inl rfl) (pe_op op_mul (pe_op op_add (pe_op op_mul (pv 3) pe_int) (pe_ix ix_list (pv 0) pe_int (fun _ _ => rfl))) (pe_op op_pow pe_int pe_int)))
    (pss_one (ps_ret (pe_op op_mod (pe_callTy call_int1 (by rfl) T.z_int (by decide +kernel) (pa_cons (pe_op op_add (pe_op op_add (pv 4) (pe_op op_mul (pe_op op_pow (pe_ix ix_list (pv 0) pe_int (fun _ _ => rfl)) pe_int) pe_int)) (pv 3)) pa_nil)) (pv 1)))))))))), ?_⟩
    repeat walk_at "st"
    refine ifB (fun e => ?_) (fun e => ?_)
    · repeat walk_at "st"
      exact k _ _ (Int.emod_nonneg _ (by omega)) (Int.emod_lt_of_pos _ m0) ⟨x / m, y, z, upd_same, Int.ediv_nonneg x0 (by omega), y1, y2⟩ (But.refl _ _).upd
    · repeat walk_at "st"
      refine ifT (decide_eq_true (show m < 2 ^ 40 from m1)) ?_
      repeat walk_at "st"
      exact k _ _ (Int.emod_nonneg _ (by omega)) (Int.emod_lt_of_pos _ m0) ⟨_, _, _, upd_same, x0, by omega, by omega⟩ (((But.refl _ _).upd).upd)
local macro_rules | `(tactic| walk_at "boxtail") => `(tactic| (
  repeat walk_at "st"
  refine ⟨szL (Nat.le_of_ble_eq_true rfl), fun p hp => ?_⟩
  repeat walk_at "st"
  refine' ⟨_, _, _, _, rfl, rfl, SqL.of upd_same, pick2 _ _ _, ?_⟩
  repeat walk_at "st"
  refine ⟨szL (Nat.le_of_ble_eq_true rfl), fun q hq => ?_⟩))
/-- the box of a cell -/
def spBox (K : PySem.W.Frag) : Sp := fun vs H Q _ => ∃ (a : Addr) (ns : List Int) (i own : Int), vs = [.ref a, .int i, .int own] ∧ SqL K H a (ns.map V.int) ∧ 0 ≤ i ∧ i < 1000 ∧ 0 ≤ own ∧ own < 1000 ∧
  ∀ (H' : Hp) (p : Addr), Same H H' → H p = none → Box H' p → Q (.ref p) H'
theorem ok_box (T : Txt K mg) : FnOk P w K mg base CX0 1 T.a__law_box T.d__law_box ["_law_script", "_law_k", "_law_own"] (spBox K) := by
  refine T.F__law_box.ok sc__law_box (fun vs H Q E h => ?_) (fun cdv A outer s H vs Q E hr h => ?_)
  · obtain ⟨a, ns, i, own, rfl, _⟩ := h
    rfl
  · obtain ⟨a, ns, i, own, rfl, hS, i0, i1, o0, o1, k⟩ := h
    have nd := sc__law_box.nd
    refine ⟨_, (pss_cons (ps_set (i := 3) nd rfl (Or.inl rfl) (pe_op op_add (pe_op op_add (pe_op op_mul pe_int (pv 1)) (pe_op op_mul pe_int (pv 2))) pe_int))
    (pss_cons (ps_if (pt_cmpR op_lt (pv 1) (pe_callB call_len_seq (by rfl) T.z_len (by decide +kernel) (pa_cons (pv 0) pa_nil)) (nomark _)) (pss_one (ps_set (i := 3) nd rfl (Or.inl rfl) (pe_callB call_abs (by rfl) T.z_abs (by decide +kernel) (pa_cons (pe_ix ix_list (pv 0) (pv 1) (fun _ _ => rfl)) pa_nil)))) (pss_one (ps_if (pt_cmpR op_gt (pe_callB call_len_seq (by rfl) T.z_len (by decide +kernel) (pa_cons (pv 0) pa_nil)) pe_int (nomark _)) (pss_one (ps_set (i := 3) nd rfl (Or.inl rfl) (pe_op op_add (pv 3) (pe_op op_mul (pe_op op_mod (pe_callTy call_int1 (by rfl) T.z_int (by decide +kernel) (pa_cons (pe_callB call_abs (by rfl) T.z_abs (by decide +kernel) (pa_cons (pe_ix ix_list (pv 0) (pe_op op_mod (pe_callTy call_int1 (by rfl) T.z_int (by decide +kernel) (pa_cons (pv 1) pa_nil)) (pe_callB call_len_seq (by rfl) T.z_len (by decide +kernel) (pa_cons (pv 0) pa_nil))) (fun _ _ => rfl)) pa_nil)) pa_nil)) pe_int) pe_int)))) pss_nil)))
    (pss_cons (ps_set (i := 4) nd rfl (Or.inl rfl) (pe_op op_add (pe_op op_mod (pe_callTy call_int1 (by rfl) T.z_int (by decide +kernel) (pa_cons (pe_op op_add (pe_op op_mul (pe_op op_mod (pe_callTy call_int1 (by rfl) T.z_int (by decide +kernel) (pa_cons (pv 3) pa_nil)) pe_int) pe_int) (pe_op op_mul pe_int (pe_op op_add (pv 1) (pe_op op_mul pe_int (pv 2))))) pa_nil)) pe_int) pe_int))
    (pss_one (ps_ret (pe_lst (pa_cons (pe_ix ix_list (pe_lst (pa_cons pe_int (pa_cons (pv 3) pa_nil))) (pe_callTy call_int1 (by rfl) T.z_int (by decide +kernel) (pa_cons (pe_cmpR op_ge (pv 3) (pe_op op_pow pe_int pe_int) (nomark _)) pa_nil)) (fun _ _ => rfl)) (pa_cons (pv 4) (pa_cons pe_int pa_nil))))))))), ?_⟩
    repeat walk_at "st"
    refine ifB (fun e => ?_) (fun e => ?_)
    · have e := of_decide_eq_true e
      rw [List.length_map] at e
      obtain ⟨z, hz⟩ := ints_at i0 e
      refine ⟨_, rfl, _, rfl, _, _, _, _, rfl, rfl, hS, hz, ?_⟩
      have c0 := natAbs_abs (i := z)
      walk_at "boxtail"
      exact k _ _ ((same_new (by assumption)).trans (same_new (by assumption))) ((same_new (by assumption)).free (by assumption)) ⟨_, _, _, upd_same, ite_ge0 (by decide) c0, by walk_at "om", by walk_at "om"⟩
    · repeat walk_at "st"
      refine ifB (fun e1 => ?_) (fun e1 => ?_)
      · have e1 := of_decide_eq_true e1
        repeat walk_at "st"
        rw [List.length_map] at e1
        obtain ⟨z, hz⟩ := ints_at (ns := ns) (k := i % ((ns.map V.int).length : Nat)) (Int.emod_nonneg _ (by rw [List.length_map]; omega)) (by rw [List.length_map]; exact Int.emod_lt_of_pos _ (by omega))
        refine ⟨_, _, _, _, rfl, rfl, hS, hz, ?_⟩
        have c0 := natAbs_abs (i := z)
        walk_at "boxtail"
        exact k _ _ ((same_new (by assumption)).trans (same_new (by assumption))) ((same_new (by assumption)).free (by assumption)) ⟨_, _, _, upd_same, ite_ge0 (by decide) (by walk_at "om"), by walk_at "om", by walk_at "om"⟩
      · repeat walk_at "st"
        walk_at "boxtail"
        exact k _ _ ((same_new (by assumption)).trans (same_new (by assumption))) ((same_new (by assumption)).free (by assumption)) ⟨_, _, _, upd_same, ite_ge0 (by decide) (by walk_at "om"), by walk_at "om", by walk_at "om"⟩

/-- one of the items of a list -/
def spPick : Sp := fun vs H Q _ => ∃ (b L : Addr) (xs : List V), vs = [.ref b, .ref L] ∧ Box H b ∧ L ≠ b ∧ H L = some (.lst xs) ∧ 0 < xs.length ∧ xs.length < 1000 ∧
  ∀ (v : V) (H' : Hp), v ∈ xs → Box H' b → But b H H' → Q v H'
theorem ok_pick (T : Txt K mg) : FnOk P w K mg base CX0 2 T.a__law_pick T.d__law_pick ["_law_box_here", "_law_items"] spPick := by
  have G__law_take : FnOk P w K mg base CX0 1 T.a__law_take T.d__law_take ["_law_box_here", "_law_many"] spTake := ok_take T
  refine T.F__law_pick.ok sc__law_pick (fun vs H Q E h => ?_) (fun cdv A outer s H vs Q E hr h => ?_)
  · obtain ⟨b, L, xs, rfl, _⟩ := h
    rfl
  · obtain ⟨b, L, xs, rfl, hB, hne, hL, l0, l1, k⟩ := h
    have nd := sc__law_pick.nd
    refine ⟨_, (pss_one (ps_ret (pe_ix ix_list (pv 1) (pe_call G__law_take (hr.mono (by first | decide | omega)) (by rfl) T.m__law_take T.k__law_take T.b__law_take .nil pass0 (pa_cons (pv 0) (pa_cons (pe_callB call_len_seq (by rfl) T.z_len (by decide +kernel) (pa_cons (pv 1) pa_nil)) pa_nil))) (fun _ _ => rfl)))), ?_⟩
    repeat walk_at "st"
    refine ⟨b, _, rfl, hB, by omega, by omega, fun r H' r0 r1 B' k' => ?_⟩
    obtain ⟨v, hv, hz⟩ := mem_at r0 r1
    exact ⟨_, _, _, _, rfl, rfl, SqL.of (k' _ _ hne hL), hz, k v H' hv B' k'⟩

end
end K17
namespace K17
open PySem PySem.Spec PyProof.Rows L2 Rs
local macro_rules | `(tactic| walk_at "om") => `(tactic| first | omega | (dsimp only; omega))
local macro_rules | `(tactic| walk_at "side") => `(tactic| first | omega | (dsimp only; omega) | decide | (unfold CMul; omega) | (unfold CDiv; omega) | (unfold CPow; omega) | exact wide_div (b := 64) (by omega) (by omega) (by decide) (by decide))
local macro_rules | `(tactic| walk_at "hp") => `(tactic| first | assumption | exact upd_same)
local macro_rules | `(tactic| walk_at "sq") => `(tactic| first | assumption | exact SqL.of (by assumption) | exact SqL.of upd_same)
local macro_rules | `(tactic| walk_at "st") => `(tactic| first
  | refine ⟨_, rfl, ?_⟩
  | (refine ⟨_, _, rfl, rfl, And.intro ?side ?_⟩; (case side => walk_at "side"))
  | refine ⟨_, _, rfl, rfl, ?_⟩
  | (refine' ⟨_, _, _, _, rfl, rfl, SqL.of ?hp, ?atx, ?_⟩; (case hp => walk_at "hp"); (case atx => exact rfl))
  | (refine' ⟨_, _, _, _, rfl, rfl, ?hp, ?atx, ?_⟩; (case hp => walk_at "hp"); (case atx => exact rfl))
  | (refine' ⟨_, _, rfl, Or.inl ?sq, ?_⟩; (case sq => walk_at "sq"))
  | refine Or.inl ⟨_, rfl, ?_⟩
  | refine Or.inr ⟨_, rfl, ?_⟩)
local macro_rules | `(tactic| walk_at "evd") => `(tactic| first
  | exact evd_int
  | exact evd_str
  | exact evd_non
  | exact evd_bl
  | exact evd_nil
  | (refine evd_cons ?_ (fun _ => ?_) <;> walk_at "evd")
  | (refine evd_tup ?_ (Nat.le_of_ble_eq_true rfl); walk_at "evd"))

section
variable {P : Program} {w : World} {K : PySem.W.Frag} {mg : Str → Option Value} {base : Heap}
/-! forms made -/
theorem un1 {k : Nat} {A : Around} (r : Room k A) : A.units + 1 < cLine := by
  have := r.un
  omega
def fldF (t q c : Int) : List (Str × V) := putF "by" (.int c) (putF "plus" (.int q) (putF "times" (.int t) []))
def FormO (C : Addr) (H : Hp) (x : Addr) (t q c : Int) : Prop := ∃ dx, H x = some (.ins C dx (fldF t q c))
theorem FormO.fz {C : Addr} {H H' : Hp} {x : Addr} {t q c : Int} (h : FormO C H x t q c) (k : Fz H H') : FormO C H' x t q c := by
  obtain ⟨dx, h⟩ := h
  exact ⟨dx, k _ _ trivial h⟩
theorem ok_whole (T : Txt K mg) : FnOk P w K mg base CX0 1 T.a_is_whole T.d_is_whole ["value"] spWhole := by
  refine T.F_is_whole.ok sc_is_whole (fun vs H Q E h => ?_) (fun cdv A outer s H vs Q E hr h => ?_)
  · obtain ⟨b, v, rfl, _⟩ := h
    rfl
  · obtain ⟨b, v, rfl, hv, k⟩ := h
    have nd := sc_is_whole.nd
    refine ⟨_, (pss_one (ps_ret (pe_and (pe_callB call_isi (by rfl) T.z_isinstance (by decide +kernel) (pa_cons (pv 0) (pa_cons (pe_bltn (v := .ty "int") (u := .type "int") (by rfl) T.z_int (by decide +kernel) (by exact rfl)) pa_nil))) (pe_one (pe_not (pe_callB call_isi (by rfl) T.z_isinstance (by decide +kernel) (pa_cons (pv 0) (pa_cons (pe_bltn (v := .ty "bool") (u := .type "bool") (by rfl) T.z_bool (by decide +kernel) (by exact rfl)) pa_nil)))))))), ?_⟩
    obtain ⟨t, ty, ki, kb⟩ := hv.ty (K := K)
    refine ⟨_, rfl, _, _, _, _, _, rfl, .ty _, ty, kit_ty ki, _, rfl, ifB (fun e => ?_) (fun e => ?_)⟩
    · refine ⟨_, rfl, _, _, _, _, _, rfl, .ty _, ty, kit_ty kb, _, rfl, ?_⟩
      rw [isInt_bl e]
      exact k
    · show Q (.bl false) H
      rw [isInt_no e]
      exact k
def spFormG (C : Addr) : Sp := fun vs H Q _ => ∃ (x dx : Addr) (t q c : Int), vs = [.ref x, .int t, .int q, .int c] ∧ H x = some (.ins C dx []) ∧ 1 ≤ c ∧ Q .non (upd H x (.ins C dx (fldF t q c)))
theorem ok_formG (T : Txt K mg) : FnOk P w K mg base CX0 2 T.a_Form___init__ T.d_Form___init__ ["self", "times", "plus", "by"] (spFormG T.c_Form) := by
  have G_is_whole : FnOk P w K mg base CX0 1 T.a_is_whole T.d_is_whole ["value"] spWhole := ok_whole T
  refine T.F_Form___init__.ok sc_Form___init__ (fun vs H Q E h => ?_) (fun cdv A outer s H vs Q E hr h => ?_)
  · obtain ⟨x, dx, t, q, c, rfl, _⟩ := h
    rfl
  · obtain ⟨x, dx, t, q, c, rfl, hx, hc, kn⟩ := h
    have nd := sc_Form___init__.nd
    refine ⟨_, (pss_cons (ps_if (pt_not (pt_val (pe_call G_is_whole (hr.mono (by first | decide | omega)) (by rfl) T.m_is_whole T.k_is_whole T.b_is_whole .nil pass0 (pa_cons (pv 1) pa_nil)))) (pss_one ps_never) pss_nil)
    (pss_cons (ps_if (pt_not (pt_val (pe_call G_is_whole (hr.mono (by first | decide | omega)) (by rfl) T.m_is_whole T.k_is_whole T.b_is_whole .nil pass0 (pa_cons (pv 2) pa_nil)))) (pss_one ps_never) pss_nil)
    (pss_cons (ps_if (PW.pt (pw_or (pt_not (pt_val (pe_call G_is_whole (hr.mono (by first | decide | omega)) (by rfl) T.m_is_whole T.k_is_whole T.b_is_whole .nil pass0 (pa_cons (pv 3) pa_nil)))) (pw_or1 (pt_cmpR op_lt (pv 3) pe_int (nomark _))))) (pss_one ps_never) pss_nil)
    (pss_cons (ps_fld (pv 0) (pv 1) rfl)
    (pss_cons (ps_fld (pv 0) (pv 2) rfl)
    (pss_one (ps_fld (pv 0) (pv 3) rfl))))))), ?_⟩
    refine ⟨_, rfl, x, _, rfl, trivial, _, rfl, ifF rfl ?_⟩
    refine ⟨_, rfl, x, _, rfl, trivial, _, rfl, ifF rfl ?_⟩
    refine ⟨_, rfl, x, _, rfl, trivial, _, rfl, ifF rfl ?_⟩
    refine ⟨_, rfl, _, _, rfl, rfl, _, rfl, ifF (decide_eq_false (by omega)) ?_⟩
    refine ⟨_, rfl, _, rfl, x, T.c_Form, dx, _, rfl, hx, T.C_Form, T.n_Form_times, by decide, ?_⟩
    refine ⟨_, rfl, _, rfl, x, T.c_Form, dx, _, rfl, upd_same, T.C_Form, T.n_Form_plus, by show 1 < 1000; decide, ?_⟩
    refine ⟨_, rfl, _, rfl, x, T.c_Form, dx, _, rfl, upd_same, T.C_Form, T.n_Form_by, by show 2 < 1000; decide, ?_⟩
    show Q .non _
    rw [upd_upd, upd_upd]
    exact kn
def frontS (t : Int) : Str := if t = 1 then Str.ofString "n" else if t = -1 then Str.ofString "-n" else nS t ++ Str.ofString "n"
def upperS (t q : Int) : Str := if t = 0 then nS q else if q = 0 then frontS t else frontS t ++ plusS q
def formText (t q c : Int) : Str := if c = 1 then upperS t q else Str.ofString "(" ++ (upperS t q ++ (Str.ofString ")/" ++ nS c))
def Mid (n : Int) : Prop := n.natAbs < 10 ^ 18
theorem nS_mid {n : Int} (h : Mid n) : (nS n).length ≤ 19 := by
  have e := PySem.int_text_length_le10 (a := n) (k := 18) (by decide) h
  unfold nS
  rw [PySem.ofString_length]
  omega
theorem front_len {t : Int} (h : Mid t) : (frontS t).length ≤ 20 := by
  unfold frontS
  split
  · decide
  · split
    · decide
    · have := nS_mid h
      have l : (Str.ofString "n").length = 1 := by decide
      rw [Str.length_append]
      omega
theorem upper_len {t q : Int} (h : Mid t) (g : Mid q) : (upperS t q).length ≤ 40 := by
  have a := nS_mid g
  have b := front_len h
  have c := plus_len g
  unfold upperS
  split
  · omega
  · split
    · omega
    · rw [Str.length_append]
      omega
def spUpper : Sp := fun vs H Q _ => ∃ (t q : Int), vs = [.int t, .int q] ∧ Mid t ∧ Mid q ∧ Q (.str (upperS t q)) H
theorem ok_upper (T : Txt K mg) : FnOk P w K mg base CX0 1 T.a__upper T.d__upper ["times", "plus"] spUpper := by
  refine T.F__upper.ok sc__upper (fun vs H Q E h => ?_) (fun cdv A outer s H vs Q E hr h => ?_)
  · obtain ⟨t, q, rfl, _⟩ := h
    rfl
  · obtain ⟨t, q, rfl, mt, mq, k⟩ := h
    have nd := sc__upper.nd
    refine ⟨_, (pss_cons (ps_if (pt_cmpR op_eq (pv 0) pe_int (nomark _)) (pss_one (ps_ret (pe_joined1 (pe_fmt (pv 1))))) pss_nil)
    (pss_cons (ps_set (i := 2) nd rfl (Or.inl rfl) (pe_joined (.cons (pe_fmt (pv 0)) (.cons pe_str .nil))))
    (pss_cons (ps_if (pt_cmpR op_eq (pv 0) pe_int (nomark _)) (pss_one (ps_set (i := 2) nd rfl (Or.inl rfl) pe_str)) pss_nil)
    (pss_cons (ps_if (pt_cmpR op_eq (pv 0) (pe_un un_neg pe_int) (nomark _)) (pss_one (ps_set (i := 2) nd rfl (Or.inl rfl) pe_str)) pss_nil)
    (pss_one (ps_ret (pe_ifExp (pt_cmpR op_ne (pv 1) pe_int (nomark _)) (pe_joined (.cons (pe_fmt (pv 2)) (.cons (pe_fmtPlus (pv 1) (pe_joined1 pe_str)) .nil))) (pv 2)))))))), ?_⟩
    have lt := log_small mt
    have lq := log_small mq
    have b1 := nS_mid mt
    have b2 := nS_mid mq
    have b3 := front_len mt
    have b4 := plus_len mq
    have e9 := sizeLine_eq
    have w0 : Str.empty.length = 0 := rfl
    have w1 : (Str.ofString "n").length = 1 := by decide
    have b1' : (Str.ofString (toString t)).length ≤ 19 := b1
    refine seqif_go ⟨_, rfl, rfl, _, rfl, ?_⟩
    rw [dec_int]
    refine ifB (fun e => ?_) (fun e => ?_)
    · have e : t = 0 := by simpa using e
      unfold upperS at k
      rw [if_pos e] at k
      exact ⟨_, rfl, .inr ⟨_, rfl, lq, k⟩⟩
    · have e : ¬ t = 0 := by simpa using e
      unfold upperS at k
      rw [if_neg e] at k
      dsimp only [tNext]
      refine ⟨_, rfl, .inr ⟨_, rfl, lt, _, rfl, by simp only [Str.length_append]; omega, _, rfl, by simp only [Str.length_append]; omega, ?_⟩⟩
      dsimp only [gName]
      refine seq_k (fun σ' H' => σ' = [some (.int t), some (.int q), some (.str (if t = 1 then Str.ofString "n" else nS t ++ Str.ofString "n"))] ∧ H' = H) (fun σ' H' hC => ?_) (fun R hR => ⟨_, rfl, rfl, _, rfl, ?_⟩)
      · obtain ⟨rfl, rfl⟩ := hC
        refine seq_k (fun σ' H2 => σ' = [some (.int t), some (.int q), some (.str (frontS t))] ∧ H2 = H') (fun σ' H2 hC => ?_) (fun R hR => ⟨_, rfl, _, rfl, rfl, _, rfl, ?_⟩)
        · obtain ⟨rfl, rfl⟩ := hC
          refine ⟨_, rfl, rfl, _, rfl, ?_⟩
          rw [dec_int]
          refine ifB (fun e2 => ?_) (fun e2 => ?_)
          · have e2 : ¬ q = 0 := by simpa using e2
            rw [if_neg e2] at k
            refine ⟨_, rfl, .inl ⟨_, rfl, by omega, _, rfl, by simp only [Str.length_append]; omega, _, rfl, _, rfl, mq, _, rfl, by simp only [Str.length_append]; omega, ?_⟩⟩
            simp only [Str.empty_append]
            exact k
          · have e2 : q = 0 := by simpa using e2
            rw [if_pos e2] at k
            exact ⟨_, rfl, k⟩
        · rw [dec_int]
          refine ifB (fun e2 => ?_) (fun e2 => ?_)
          · have e2 : t = -1 := by simpa using e2
            refine hR _ _ ⟨?_, rfl⟩
            have ef : frontS t = Str.ofString "-n" := by
              unfold frontS
              rw [if_neg (by omega), if_pos e2]
            rw [ef]
            rfl
          · have e2 : ¬ t = -1 := by simpa using e2
            refine hR _ _ ⟨?_, rfl⟩
            unfold frontS
            rw [if_neg e2]
      · rw [dec_int]
        refine ifB (fun e2 => ?_) (fun e2 => ?_)
        · have e2 : t = 1 := by simpa using e2
          refine hR _ _ ⟨?_, rfl⟩
          rw [if_pos e2]
          rfl
        · have e2 : ¬ t = 1 := by simpa using e2
          refine hR _ _ ⟨?_, rfl⟩
          rw [if_neg e2]
          simp only [Str.empty_append]
          rfl
def spFText : Sp := fun vs H Q _ => ∃ (t q c : Int), vs = [.int t, .int q, .int c] ∧ Mid t ∧ Mid q ∧ 1 ≤ c ∧ Mid c ∧ Q (.str (formText t q c)) H
theorem ok_ftext (T : Txt K mg) : FnOk P w K mg base CX0 2 T.a__text T.d__text ["times", "plus", "by"] spFText := by
  have G__upper : FnOk P w K mg base CX0 1 T.a__upper T.d__upper ["times", "plus"] spUpper := ok_upper T
  refine T.F__text.ok sc__text (fun vs H Q E h => ?_) (fun cdv A outer s H vs Q E hr h => ?_)
  · obtain ⟨t, q, c, rfl, _⟩ := h
    rfl
  · obtain ⟨t, q, c, rfl, mt, mq, c1, mc, k⟩ := h
    have nd := sc__text.nd
    refine ⟨_, (pss_cons (ps_set (i := 3) nd rfl (Or.inl rfl) (pe_call G__upper (hr.mono (by first | decide | omega)) (by rfl) T.m__upper T.k__upper T.b__upper .nil pass0 (pa_cons (pv 0) (pa_cons (pv 1) pa_nil))))
    (pss_one (ps_ret (pe_ifExp (pt_cmpR op_gt (pv 2) pe_int (nomark _)) (pe_joined (.cons pe_str (.cons (pe_fmt (pv 3)) (.cons pe_str (.cons (pe_fmt (pv 2)) .nil))))) (pv 3))))), ?_⟩
    have b1 := upper_len mt mq
    have b2 := nS_mid mc
    have e9 := sizeLine_eq
    have w0 : Str.empty.length = 0 := rfl
    have w1 : (Str.ofString "(").length = 1 := by decide
    have w2 : (Str.ofString ")/").length = 2 := by decide
    have b2' : (Str.ofString (toString c)).length ≤ 19 := b2
    refine ⟨_, rfl, _, rfl, t, q, rfl, mt, mq, ?_⟩
    dsimp only [gName]
    refine ⟨_, rfl, _, _, rfl, rfl, _, rfl, ifD (fun e => ?_) (fun e => ?_)⟩
    · unfold formText at k
      rw [if_neg (by omega)] at k
      refine ⟨_, rfl, by simp only [Str.length_append]; omega, _, rfl, .inl ⟨_, rfl, by omega, _, rfl, by simp only [Str.length_append]; omega, _, rfl, by simp only [Str.length_append]; omega, _, rfl, .inr ⟨_, rfl, log_small mc, _, rfl, by simp only [Str.length_append]; omega, ?_⟩⟩⟩
      show Q (.str (Str.empty ++ Str.ofString "(" ++ upperS t q ++ Str.ofString ")/" ++ nS c)) H
      simp only [Str.empty_append, Str.append_assoc]
      exact k
    · unfold formText at k
      rw [if_pos (by omega)] at k
      exact ⟨_, rfl, k⟩
def spFStr (C : Addr) : Sp := fun vs H Q _ => ∃ (x : Addr) (t q c : Int), vs = [.ref x] ∧ FormO C H x t q c ∧ Mid t ∧ Mid q ∧ 1 ≤ c ∧ Mid c ∧ Q (.str (formText t q c)) H
theorem ok_fstr (T : Txt K mg) : FnOk P w K mg base CX0 3 T.a_Form___str__ T.d_Form___str__ ["self"] (spFStr T.c_Form) := by
  have G__text : FnOk P w K mg base CX0 2 T.a__text T.d__text ["times", "plus", "by"] spFText := ok_ftext T
  refine T.F_Form___str__.ok sc_Form___str__ (fun vs H Q E h => ?_) (fun cdv A outer s H vs Q E hr h => ?_)
  · obtain ⟨x, t, q, c, rfl, _⟩ := h
    rfl
  · obtain ⟨x, t, q, c, rfl, ⟨dx, hx⟩, mt, mq, c1, mc, k⟩ := h
    have nd := sc_Form___str__.nd
    refine ⟨_, (pss_one (ps_ret (pe_callTy SkE.call_str_str (by rfl) T.z_str (by decide +kernel) (pa_cons (pe_call G__text (hr.mono (by first | decide | omega)) (by rfl) T.m__text T.k__text T.b__text .nil pass0 (pa_cons (pe_fld (pv 0) rfl) (pa_cons (pe_fld (pv 0) rfl) (pa_cons (pe_fld (pv 0) rfl) pa_nil)))) pa_nil)))), ?_⟩
    refine ⟨_, rfl, x, _, dx, _, _, rfl, hx, T.C_Form, T.n_Form_times, rfl, _, rfl, x, _, dx, _, _, rfl, hx, T.C_Form, T.n_Form_plus, rfl, _, rfl, x, _, dx, _, _, rfl, hx, T.C_Form, T.n_Form_by, rfl, ?_⟩
    exact ⟨t, q, c, rfl, mt, mq, c1, mc, _, rfl, k⟩
def spFEq (K : PySem.W.Frag) (C : Addr) : Sp := fun vs H Q _ => ∃ (x : Addr) (t q c : Int) (v : V), vs = [.ref x, v] ∧ FormO C H x t q c ∧
  ((∃ y t' q' c', v = .ref y ∧ FormO C H y t' q' c' ∧ Q (.bl (decide (t = t' ∧ q = q' ∧ c = c'))) H) ∨ ∃ T, TyX K H v T ∧ PySem.W.kitOne K T (.ref C) = some false ∧ Q (.bl false) H)
theorem ok_feq (T : Txt K mg) : FnOk P w K mg base CX0 1 T.a_Form___eq__ T.d_Form___eq__ ["self", "other"] (spFEq K T.c_Form) := by
  refine T.F_Form___eq__.ok sc_Form___eq__ (fun vs H Q E h => ?_) (fun cdv A outer s H vs Q E hr h => ?_)
  · obtain ⟨x, t, q, c, v, rfl, _⟩ := h
    rfl
  · obtain ⟨x, t, q, c, v, rfl, ⟨dx, hx⟩, hv⟩ := h
    have nd := sc_Form___eq__.nd
    refine ⟨_, (pss_one (ps_ret (pe_and (pe_callB call_isi (by rfl) T.z_isinstance (by decide +kernel) (pa_cons (pv 1) (pa_cons (pe_glob rfl T.m_Form (rel_ref _)) pa_nil))) (pe_and (pe_cmpR op_eq (pe_fld (pv 0) rfl) (pe_fld (pv 1) rfl) (nomark _)) (pe_and (pe_cmpR op_eq (pe_fld (pv 0) rfl) (pe_fld (pv 1) rfl) (nomark _)) (pe_one (pe_cmpR op_eq (pe_fld (pv 0) rfl) (pe_fld (pv 1) rfl) (nomark _)))))))), ?_⟩
    rcases hv with ⟨y, t', q', c', rfl, ⟨dy, hy⟩, k⟩ | ⟨TT, ty, kt, k⟩
    · refine ⟨_, rfl, _, _, _, _, _, rfl, .own _, T.I_Form.ty T.C_Form hy, kit_self, _, rfl, ifT rfl ?_⟩
      have no : ¬ (t = t' ∧ q = q' ∧ c = c') → Q (.bl false) H := fun n => by
        rw [decide_eq_false n] at k
        exact k
      refine ⟨_, rfl, x, _, dx, _, _, rfl, hx, T.C_Form, T.n_Form_times, rfl, _, rfl, y, _, dy, _, _, rfl, hy, T.C_Form, T.n_Form_times, rfl, rfl, _, rfl, ?_⟩
      rw [dec_int]
      refine ifB (fun e0 => ?_) (fun e0 => no fun z => by simp [z.1] at e0)
      have e0 : t = t' := by simpa using e0
      refine ⟨_, rfl, x, _, dx, _, _, rfl, hx, T.C_Form, T.n_Form_plus, rfl, _, rfl, y, _, dy, _, _, rfl, hy, T.C_Form, T.n_Form_plus, rfl, rfl, _, rfl, ?_⟩
      rw [dec_int]
      refine ifB (fun e1 => ?_) (fun e1 => no fun z => by simp [z.2.1] at e1)
      have e1 : q = q' := by simpa using e1
      refine ⟨_, rfl, x, _, dx, _, _, rfl, hx, T.C_Form, T.n_Form_by, rfl, _, rfl, y, _, dy, _, _, rfl, hy, T.C_Form, T.n_Form_by, rfl, rfl, ?_⟩
      have e2 : decide (V.int c = V.int c') = decide (t = t' ∧ q = q' ∧ c = c') := by
        rw [dec_int]
        simp [e0, e1]
        rfl
      rw [e2]
      exact k
    · exact ⟨_, rfl, _, _, _, _, _, rfl, .own _, ty, kt, _, rfl, ifF rfl k⟩

/-! the law's own text and worth -/
structure FormR (t q c : Int) : Prop where
  t1 : t.natAbs < 10 ^ 9
  q1 : q.natAbs < 10 ^ 9
  c1 : 1 ≤ c
  c2 : c < 10 ^ 9
def spFormText (K : PySem.W.Frag) : Sp := fun vs H Q _ => ∃ (p : Addr) (t q c : Int), vs = [.ref p] ∧ SqT K H p [.int t, .int q, .int c] ∧ FormR t q c ∧ ∀ H', Same H H' → Q (.str (formText t q c)) H'

/-! equal texts mean equal forms (behind formo.inc) -/
theorem digs {m : Nat} : ∀ c ∈ (Nat.toDigits 10 m).map Char.toNat, 48 ≤ c ∧ c ≤ 57 := by
  intro c hc
  obtain ⟨d, hd, rfl⟩ := List.mem_map.mp hc
  have h := Nat.isDigit_of_mem_toDigits (by decide) (by decide) hd
  simp only [Char.isDigit, Bool.and_eq_true, decide_eq_true_eq] at h
  exact ⟨h.1, h.2⟩
/-- the signs of a number -/
theorem nS_signs {n : Int} : ∀ c ∈ TL.tl (nS n), c = 45 ∨ (48 ≤ c ∧ c ≤ 57) := by
  intro c hc
  by_cases h : n < 0
  · rw [signs_neg h] at hc
    rcases List.mem_cons.mp hc with e | e
    · exact .inl e
    · exact .inr (digs c e)
  · rw [signs_pos (by omega)] at hc
    exact .inr (digs c hc)
theorem cut_at {x : Nat} : ∀ {a a' b b' : List Nat}, x ∉ a → x ∉ a' → a ++ x :: b = a' ++ x :: b' → a = a' ∧ b = b'
  | [], [], _, _, _, _, h => ⟨rfl, by simpa using h⟩
  | [], y :: a', _, _, _, n, h => by
    rw [List.nil_append, List.cons_append] at h
    injection h with h1 h2
    exact absurd (h1 ▸ List.mem_cons_self) n
  | y :: a, [], _, _, n, _, h => by
    rw [List.nil_append, List.cons_append] at h
    injection h with h1 h2
    exact absurd (h1 ▸ List.mem_cons_self) n
  | y :: a, z :: a', b, b', n, n', h => by
    rw [List.cons_append, List.cons_append] at h
    injection h with h1 h2
    obtain ⟨e1, e2⟩ := cut_at (fun m => n (List.mem_cons_of_mem _ m)) (fun m => n' (List.mem_cons_of_mem _ m)) h2
    exact ⟨by rw [h1, e1], e2⟩
theorem tl_inj {x y : Str} (h : TL.tl x = TL.tl y) : x = y := by
  obtain ⟨⟨a⟩⟩ := x
  obtain ⟨⟨b⟩⟩ := y
  have h : a = b := h
  rw [h]
def Nine (n : Int) : Prop := n.natAbs < 10 ^ 9
theorem signs_abs {n : Int} : (Nat.toDigits 10 n.natAbs).map Char.toNat = TL.tl (nS (n.natAbs : Int)) := by
  rw [signs_pos (n := (n.natAbs : Int)) (by omega)]
  rfl
theorem nS_injZ {n m : Int} (hn : Nine n) (hm : Nine m) (e : TL.tl (nS n) = TL.tl (nS m)) : n = m := by
  unfold Nine at hn hm
  have abs : (Nat.toDigits 10 n.natAbs).map Char.toNat = (Nat.toDigits 10 m.natAbs).map Char.toNat → (n.natAbs : Int) = m.natAbs := fun z => by
    rw [signs_abs, signs_abs] at z
    exact nS_inj (by omega) (by omega) (by omega) (by omega) (tl_inj z)
  have odd : ∀ {k : Nat} {l : List Nat}, 45 :: l ≠ (Nat.toDigits 10 k).map Char.toNat := fun {k l} z => by
    have := digs (m := k) 45 (z ▸ List.mem_cons_self)
    omega
  by_cases a : n < 0 <;> by_cases b : m < 0
  · rw [signs_neg a, signs_neg b] at e
    injection e with _ e
    have := abs e
    omega
  · rw [signs_neg a, signs_pos (by omega)] at e
    exact absurd e odd
  · rw [signs_pos (by omega), signs_neg b] at e
    exact absurd e.symm odd
  · rw [signs_pos (by omega), signs_pos (by omega)] at e
    have := abs e
    omega
theorem nS_ne {n : Int} : TL.tl (nS n) ≠ [] := by
  by_cases a : n < 0
  · rw [signs_neg a]
    simp
  · rw [signs_pos (by omega)]
    exact digits_ne
theorem nS_dash {n : Int} : TL.tl (nS n) ≠ [45] := by
  by_cases a : n < 0
  · rw [signs_neg a]
    intro e
    injection e with _ e
    exact digits_ne e
  · rw [signs_pos (by omega)]
    intro e
    have := digs (m := n.natAbs) 45 (e ▸ List.mem_cons_self)
    omega
def headL (t : Int) : List Nat := if t = 1 then [] else if t = -1 then [45] else TL.tl (nS t)
def tailL (q : Int) : List Nat := if q = 0 then [] else TL.tl (plusS q)
theorem front_tl {t : Int} : TL.tl (frontS t) = headL t ++ [110] := by
  unfold frontS headL
  split
  · rfl
  · split
    · rfl
    · rw [TL.tl_append]
      rfl
theorem upper_tl {t q : Int} : TL.tl (upperS t q) = if t = 0 then TL.tl (nS q) else headL t ++ 110 :: tailL q := by
  unfold upperS tailL
  split
  · rfl
  · split
    · rw [front_tl]
    · rw [TL.tl_append, front_tl, List.append_assoc]
      rfl
theorem head_signs {t : Int} : ∀ c ∈ headL t, c = 45 ∨ (48 ≤ c ∧ c ≤ 57) := by
  unfold headL
  split
  · intro c h
    cases h
  · split
    · intro c h
      simp only [List.mem_cons, List.not_mem_nil, or_false] at h
      exact .inl h
    · exact nS_signs
theorem plus_signs {q : Int} : ∀ c ∈ tailL q, c = 43 ∨ c = 45 ∨ (48 ≤ c ∧ c ≤ 57) := by
  unfold tailL plusS
  split
  · intro c h
    cases h
  · split
    · exact fun c h => .inr (nS_signs c h)
    · intro c h
      rw [TL.tl_append] at h
      rcases List.mem_append.mp h with h | h
      · have h : c ∈ [43] := h
        simp only [List.mem_cons, List.not_mem_nil, or_false] at h
        exact .inl h
      · exact .inr (nS_signs c h)
theorem upper_signs {t q : Int} : ∀ c ∈ TL.tl (upperS t q), c = 43 ∨ c = 45 ∨ c = 110 ∨ (48 ≤ c ∧ c ≤ 57) := by
  intro c h
  rw [upper_tl] at h
  split at h
  · rcases nS_signs c h with e | e
    · exact .inr (.inl e)
    · exact .inr (.inr (.inr e))
  · rcases List.mem_append.mp h with h | h
    · rcases head_signs c h with e | e
      · exact .inr (.inl e)
      · exact .inr (.inr (.inr e))
    · rcases List.mem_cons.mp h with e | h
      · exact .inr (.inr (.inl e))
      · rcases plus_signs c h with e | e | e
        · exact .inl e
        · exact .inr (.inl e)
        · exact .inr (.inr (.inr e))
theorem head_inj {t t' : Int} (h : Nine t) (h' : Nine t') (e : headL t = headL t') : t = t' := by
  unfold headL at e
  by_cases a : t = 1 <;> by_cases b : t' = 1
  · omega
  · rw [if_pos a, if_neg b] at e
    split at e
    · cases e
    · exact absurd e.symm nS_ne
  · rw [if_neg a, if_pos b] at e
    split at e
    · cases e
    · exact absurd e nS_ne
  · rw [if_neg a, if_neg b] at e
    by_cases c : t = -1 <;> by_cases d : t' = -1
    · omega
    · rw [if_pos c, if_neg d] at e
      exact absurd e.symm nS_dash
    · rw [if_neg c, if_pos d] at e
      exact absurd e nS_dash
    · rw [if_neg c, if_neg d] at e
      exact nS_injZ h h' e
theorem plus_tl {q : Int} (h : q ≠ 0) : tailL q = if q < 0 then TL.tl (nS q) else 43 :: TL.tl (nS q) := by
  unfold tailL plusS
  rw [if_neg h]
  split
  · rfl
  · rw [TL.tl_append]
    rfl
theorem tail_inj {q q' : Int} (h : Nine q) (h' : Nine q') (e : tailL q = tailL q') : q = q' := by
  have emp : ∀ {z : Int}, z ≠ 0 → tailL z ≠ [] := fun {z} hz => by
    rw [plus_tl hz]
    split
    · exact nS_ne
    · simp
  have dif : ∀ {z y : Int} {l : List Nat}, TL.tl (nS z) ≠ 43 :: l := fun {z y l} e => by
    have := nS_signs (n := z) 43 (e ▸ List.mem_cons_self)
    omega
  by_cases a : q = 0 <;> by_cases b : q' = 0
  · omega
  · rw [show tailL q = [] by unfold tailL; rw [if_pos a]] at e
    exact absurd e.symm (emp b)
  · rw [show tailL q' = [] by unfold tailL; rw [if_pos b]] at e
    exact absurd e (emp a)
  · rw [plus_tl a, plus_tl b] at e
    by_cases c : q < 0 <;> by_cases d : q' < 0
    · rw [if_pos c, if_pos d] at e
      exact nS_injZ h h' e
    · rw [if_pos c, if_neg d] at e
      exact absurd e (dif (y := 0))
    · rw [if_neg c, if_pos d] at e
      exact absurd e.symm (dif (y := 0))
    · rw [if_neg c, if_neg d] at e
      injection e with _ e
      exact nS_injZ h h' e
theorem upper_inj {t q t' q' : Int} (h1 : Nine t) (h2 : Nine q) (h3 : Nine t') (h4 : Nine q') (e : TL.tl (upperS t q) = TL.tl (upperS t' q')) : t = t' ∧ q = q' := by
  rw [upper_tl, upper_tl] at e
  have no : ∀ {z : Int}, 110 ∉ TL.tl (nS z) := fun {z} h => by
    have := nS_signs (n := z) 110 h
    omega
  have noH : ∀ {z : Int}, 110 ∉ headL z := fun {z} h => by
    have := head_signs (t := z) 110 h
    omega
  by_cases a : t = 0 <;> by_cases b : t' = 0
  · rw [if_pos a, if_pos b] at e
    exact ⟨by omega, nS_injZ h2 h4 e⟩
  · rw [if_pos a, if_neg b] at e
    exact absurd (e ▸ List.mem_append_right _ List.mem_cons_self) no
  · rw [if_neg a, if_pos b] at e
    exact absurd (e.symm ▸ List.mem_append_right _ List.mem_cons_self) no
  · rw [if_neg a, if_neg b] at e
    obtain ⟨e1, e2⟩ := cut_at noH noH e
    exact ⟨head_inj h1 h3 e1, tail_inj h2 h4 e2⟩
/-- equal texts mean equal forms -/
theorem formText_inj {t q c t' q' c' : Int} (h1 : Nine t) (h2 : Nine q) (h3 : Nine c) (h4 : Nine t') (h5 : Nine q') (h6 : Nine c') (e : formText t q c = formText t' q' c') : t = t' ∧ q = q' ∧ c = c' := by
  have big : ∀ {t q c : Int}, TL.tl (Str.ofString "(" ++ (upperS t q ++ (Str.ofString ")/" ++ nS c))) = 40 :: (TL.tl (upperS t q) ++ 41 :: 47 :: TL.tl (nS c)) := by
    intro t q c
    rw [TL.tl_append, TL.tl_append, TL.tl_append]
    rfl
  have no : ∀ {t q : Int} {x : Nat}, x = 40 ∨ x = 41 → x ∉ TL.tl (upperS t q) := fun {t q x} hx h => by
    have := upper_signs (t := t) (q := q) x h
    omega
  have e := congrArg TL.tl e
  unfold formText at e
  by_cases a : c = 1 <;> by_cases b : c' = 1
  · rw [if_pos a, if_pos b] at e
    obtain ⟨e1, e2⟩ := upper_inj h1 h2 h4 h5 e
    exact ⟨e1, e2, by omega⟩
  · rw [if_pos a, if_neg b, big] at e
    exact absurd (e ▸ List.mem_cons_self) (no (.inl rfl))
  · rw [if_neg a, if_pos b, big] at e
    exact absurd (e.symm ▸ List.mem_cons_self) (no (.inl rfl))
  · rw [if_neg a, if_neg b, big, big] at e
    injection e with _ e
    obtain ⟨e1, e2⟩ := cut_at (no (.inr rfl)) (no (.inr rfl)) e
    injection e2 with _ e2
    obtain ⟨u1, u2⟩ := upper_inj h1 h2 h4 h5 e1
    exact ⟨u1, u2, nS_injZ h3 h6 e2⟩

end
end K17
namespace K17
open PySem PySem.Spec PyProof.Rows L2 Rs
local macro_rules | `(tactic| walk_at "om") => `(tactic| first | omega | (dsimp only; omega))
local macro_rules | `(tactic| walk_at "side") => `(tactic| first | omega | (dsimp only; omega) | decide | (unfold CMul; omega) | (unfold CDiv; omega) | (unfold CPow; omega) | exact wide_div (b := 64) (by omega) (by omega) (by decide) (by decide))
local macro_rules | `(tactic| walk_at "hp") => `(tactic| first | assumption | exact upd_same)
local macro_rules | `(tactic| walk_at "sq") => `(tactic| first | assumption | exact SqL.of (by assumption) | exact SqL.of upd_same)
local macro_rules | `(tactic| walk_at "st") => `(tactic| first
  | refine ⟨_, rfl, ?_⟩
  | (refine ⟨_, _, rfl, rfl, And.intro ?side ?_⟩; (case side => walk_at "side"))
  | refine ⟨_, _, rfl, rfl, ?_⟩
  | (refine' ⟨_, _, _, _, rfl, rfl, SqL.of ?hp, ?atx, ?_⟩; (case hp => walk_at "hp"); (case atx => exact rfl))
  | (refine' ⟨_, _, _, _, rfl, rfl, ?hp, ?atx, ?_⟩; (case hp => walk_at "hp"); (case atx => exact rfl))
  | (refine' ⟨_, _, rfl, Or.inl ?sq, ?_⟩; (case sq => walk_at "sq"))
  | refine Or.inl ⟨_, rfl, ?_⟩
  | refine Or.inr ⟨_, rfl, ?_⟩)
local macro_rules | `(tactic| walk_at "evd") => `(tactic| first
  | exact evd_int
  | exact evd_str
  | exact evd_non
  | exact evd_bl
  | exact evd_nil
  | (refine evd_cons ?_ (fun _ => ?_) <;> walk_at "evd")
  | (refine evd_tup ?_ (Nat.le_of_ble_eq_true rfl); walk_at "evd"))

section
variable {P : Program} {w : World} {K : PySem.W.Frag} {mg : Str → Option Value} {base : Heap}
/-! lanes: what is drawn, what is made -/
def ways : List Str := ["up", "down"]
def signs : List Str := ["+", "-"]
def deeds : List Str := ["add", "put"]
/-- a lane's data -/
structure LD where
  w : Str
  s : Str
  t : Int
  q : Int
  c : Int
  d : Str
  deriving DecidableEq
structure LI (l : LD) : Prop where
  w : l.w ∈ ways
  s : l.s ∈ signs
  d : l.d ∈ deeds
  t1 : -1000 ≤ l.t
  t2 : l.t ≤ 1000
  q1 : -1000 ≤ l.q
  q2 : l.q ≤ 1000
  c1 : 1 ≤ l.c
  c2 : l.c ≤ 9
theorem LI.r {l : LD} (h : LI l) : FormR l.t l.q l.c := by
  have := h.t1
  have := h.t2
  have := h.q1
  have := h.q2
  have := h.c1
  have := h.c2
  exact ⟨by omega, by omega, by omega, by omega⟩
def LaneV (H : Hp) (v : V) (l : LD) : Prop := ∃ p f, v = .ref p ∧ H p = some (.tup [.str l.w, .str l.s, .ref f, .str l.d]) ∧ H f = some (.tup [.int l.t, .int l.q, .int l.c]) ∧ LI l
theorem LaneV.fz {H H' : Hp} {v : V} {l : LD} (h : LaneV H v l) (k : Fz H H') : LaneV H' v l := by
  obtain ⟨p, f, e, hp, hf, i⟩ := h
  exact ⟨p, f, e, k _ _ trivial hp, k _ _ trivial hf, i⟩
def spLane : Sp := fun vs H Q _ => ∃ (b : Addr) (far : Int), vs = [.ref b, .int far] ∧ Box H b ∧ 0 < far ∧ far ≤ 1000 ∧ ∀ (v : V) (l : LD) (H' : Hp), LaneV H' v l → Box H' b → But b H H' → Q v H'
theorem mem3 {v : V} {a b c : Str} {ys : List Str} (h : v ∈ [V.str a, V.str b, V.str c]) (ha : a ∈ ys) (hb : b ∈ ys) (hc : c ∈ ys) : ∃ x, v = .str x ∧ x ∈ ys := by
  simp only [List.mem_cons, List.not_mem_nil, or_false] at h
  rcases h with h | h | h
  · exact ⟨a, h, ha⟩
  · exact ⟨b, h, hb⟩
  · exact ⟨c, h, hc⟩
/-! Lane -/
def fldL (l : LD) (y : Addr) : List (Str × V) := putF "deed" (.str l.d) (putF "shift" (.ref y) (putF "sign" (.str l.s) (putF "way" (.str l.w) [])))
def LaneO (CL CF : Addr) (H : Hp) (v : V) (l : LD) : Prop := ∃ x dx y, v = .ref x ∧ H x = some (.ins CL dx (fldL l y)) ∧ FormO CF H y l.t l.q l.c ∧ LI l
theorem LaneO.fz {CL CF : Addr} {H H' : Hp} {v : V} {l : LD} (h : LaneO CL CF H v l) (k : Fz H H') : LaneO CL CF H' v l := by
  obtain ⟨x, dx, y, e, hx, hy, i⟩ := h
  exact ⟨x, dx, y, e, k _ _ trivial hx, hy.fz k, i⟩
def spLaneG (CL CF : Addr) : Sp := fun vs H Q _ => ∃ (x dx y : Addr) (l : LD), vs = [.ref x, .str l.w, .str l.s, .ref y, .str l.d] ∧ H x = some (.ins CL dx []) ∧ LI l ∧ FormO CF H y l.t l.q l.c ∧ Q .non (upd H x (.ins CL dx (fldL l y)))
theorem isOne_mem {y : Str} {ys : List Str} (h : y ∈ ys) : isOne ys (.str y) = true := by
  show ys.any (· == y) = true
  rw [List.any_eq_true]
  exact ⟨y, h, by simp⟩
theorem ok_laneG (T : Txt K mg) : FnOk P w K mg base CX0 2 T.a_Lane___init__ T.d_Lane___init__ ["self", "way", "sign", "shift", "deed"] (spLaneG T.c_Lane T.c_Form) := by
  refine T.F_Lane___init__.ok sc_Lane___init__ (fun vs H Q E h => ?_) (fun cdv A outer s H vs Q E hr h => ?_)
  · obtain ⟨x, dx, y, l, rfl, _⟩ := h
    rfl
  · obtain ⟨x, dx, y, l, rfl, hx, li, ⟨dy, hy⟩, kn⟩ := h
    have nd := sc_Lane___init__.nd
    refine ⟨_, (pss_cons (ps_if (pt_cmpR (op_notInSh hr.units) (pv 1) (pe_glob rfl T.m_WAYS (rel_ref _)) (by rfl)) (pss_one ps_never) pss_nil)
    (pss_cons (ps_if (pt_cmpR (op_notInSh hr.units) (pv 2) (pe_glob rfl T.m_SIGNS (rel_ref _)) (by rfl)) (pss_one ps_never) pss_nil)
    (pss_cons (ps_if (pt_not (pt_val (pe_callB call_isi (by rfl) T.z_isinstance (by decide +kernel) (pa_cons (pv 3) (pa_cons (pe_glob rfl T.m_Form (rel_ref _)) pa_nil))))) (pss_one ps_never) pss_nil)
    (pss_cons (ps_if (pt_cmpR (op_notInSh hr.units) (pv 4) (pe_glob rfl T.m_DEEDS (rel_ref _)) (by rfl)) (pss_one ps_never) pss_nil)
    (pss_cons (ps_fld (pv 0) (pv 1) rfl)
    (pss_cons (ps_fld (pv 0) (pv 2) rfl)
    (pss_cons (ps_fld (pv 0) (pv 3) rfl)
    (pss_one (ps_fld (pv 0) (pv 4) rfl))))))))), ?_⟩
    refine ⟨_, rfl, x, _, ways, rfl, T.s_WAYS _, trivial, _, rfl, ifF (by simp [isOne_mem li.w]) ?_⟩
    refine ⟨_, rfl, x, _, signs, rfl, T.s_SIGNS _, trivial, _, rfl, ifF (by simp [isOne_mem li.s]) ?_⟩
    refine ⟨_, rfl, _, _, _, _, _, rfl, .own _, T.I_Form.ty T.C_Form hy, kit_self, _, rfl, ifF rfl ?_⟩
    refine ⟨_, rfl, x, _, deeds, rfl, T.s_DEEDS _, trivial, _, rfl, ifF (by simp [isOne_mem li.d]) ?_⟩
    refine ⟨_, rfl, _, rfl, x, T.c_Lane, dx, _, rfl, hx, T.C_Lane, T.n_Lane_way, by decide, ?_⟩
    refine ⟨_, rfl, _, rfl, x, T.c_Lane, dx, _, rfl, upd_same, T.C_Lane, T.n_Lane_sign, by show 1 < 1000; decide, ?_⟩
    refine ⟨_, rfl, _, rfl, x, T.c_Lane, dx, _, rfl, upd_same, T.C_Lane, T.n_Lane_shift, by show 2 < 1000; decide, ?_⟩
    refine ⟨_, rfl, _, rfl, x, T.c_Lane, dx, _, rfl, upd_same, T.C_Lane, T.n_Lane_deed, by show 3 < 1000; decide, ?_⟩
    show Q .non _
    rw [upd_upd, upd_upd, upd_upd]
    exact kn
theorem dec_str {a b : Str} : decide (V.str a = V.str b) = decide (a = b) := decide_eq_decide.mpr ⟨fun h => by injection h, fun h => by rw [h]⟩
def spLEq (K : PySem.W.Frag) (CL CF : Addr) : Sp := fun vs H Q _ => ∃ (u v : V) (l : LD), vs = [u, v] ∧ LaneO CL CF H u l ∧
  ((∃ l', LaneO CL CF H v l' ∧ Q (.bl (decide (l = l'))) H) ∨ ∃ t, TyX K H v t ∧ PySem.W.kitOne K t (.ref CL) = some false ∧ Q (.bl false) H)
theorem ok_leq (T : Txt K mg) : FnOk P w K mg base CX0 3 T.a_Lane___eq__ T.d_Lane___eq__ ["self", "other"] (spLEq K T.c_Lane T.c_Form) := by
  have R_feq : FnR P w K mg base CX0 1 T.a_Form___eq__ (spFEq K T.c_Form) := fnR (ok_feq T) T.b_Form___eq__
  refine T.F_Lane___eq__.ok sc_Lane___eq__ (fun vs H Q E h => ?_) (fun cdv A outer s H vs Q E hr h => ?_)
  · obtain ⟨u, v, l, rfl, _⟩ := h
    rfl
  · obtain ⟨u, v, l, rfl, ⟨x, dx, y, rfl, hx, hy, li⟩, hv⟩ := h
    have nd := sc_Lane___eq__.nd
    refine ⟨_, (pss_one (ps_ret (pe_and (pe_callB call_isi (by rfl) T.z_isinstance (by decide +kernel) (pa_cons (pv 1) (pa_cons (pe_glob rfl T.m_Lane (rel_ref _)) pa_nil))) (pe_and (pe_cmpR op_eq (pe_fld (pv 0) rfl) (pe_fld (pv 1) rfl) (nomark _)) (pe_and (pe_cmpR op_eq (pe_fld (pv 0) rfl) (pe_fld (pv 1) rfl) (nomark _)) (pe_and (pe_cmpR (op_eqO T.O_Form R_feq (hr.mono (by decide)) pass0) (pe_fld (pv 0) rfl) (pe_fld (pv 1) rfl) (nomark _)) (pe_one (pe_cmpR op_eq (pe_fld (pv 0) rfl) (pe_fld (pv 1) rfl) (nomark _))))))))), ?_⟩
    rcases hv with ⟨l', ⟨x', dx', y', rfl, hx', hy', li'⟩, k⟩ | ⟨t, ty, kt, k⟩
    · refine ⟨_, rfl, _, _, _, _, _, rfl, .own _, T.I_Lane.ty T.C_Lane hx', kit_self, _, rfl, ifT rfl ?_⟩
      have no : l ≠ l' → Q (.bl false) H := fun n => by
        rw [decide_eq_false n] at k
        exact k
      refine ⟨_, rfl, x, _, dx, _, _, rfl, hx, T.C_Lane, T.n_Lane_way, rfl, _, rfl, x', _, dx', _, _, rfl, hx', T.C_Lane, T.n_Lane_way, rfl, rfl, _, rfl, ?_⟩
      rw [dec_str]
      refine ifD (fun e0 => ?_) (fun e0 => no fun z => e0 (by rw [z]))
      refine ⟨_, rfl, x, _, dx, _, _, rfl, hx, T.C_Lane, T.n_Lane_sign, rfl, _, rfl, x', _, dx', _, _, rfl, hx', T.C_Lane, T.n_Lane_sign, rfl, rfl, _, rfl, ?_⟩
      rw [dec_str]
      refine ifD (fun e1 => ?_) (fun e1 => no fun z => e1 (by rw [z]))
      obtain ⟨dz, hz⟩ := id hy
      obtain ⟨dz', hz'⟩ := id hy'
      refine ⟨_, rfl, x, _, dx, _, _, rfl, hx, T.C_Lane, T.n_Lane_shift, rfl, _, rfl, x', _, dx', _, _, rfl, hx', T.C_Lane, T.n_Lane_shift, rfl, y, dz, _, _, rfl, hz, T.I_Form.ty T.C_Form hz', notFirst_self, y, _, _, _, _, rfl, hy, .inl ⟨y', _, _, _, rfl, hy', _, rfl, ifD (fun e2 => ?_) (fun e2 => no fun z => e2 (by rw [z]; exact ⟨rfl, rfl, rfl⟩))⟩⟩
      refine ⟨_, rfl, x, _, dx, _, _, rfl, hx, T.C_Lane, T.n_Lane_deed, rfl, _, rfl, x', _, dx', _, _, rfl, hx', T.C_Lane, T.n_Lane_deed, rfl, rfl, ?_⟩
      have e : decide (V.str l.d = V.str l'.d) = decide (l = l') := by
        rw [dec_str]
        refine decide_eq_decide.mpr ⟨fun e3 => ?_, fun z => by rw [z]⟩
        obtain ⟨a, b, c⟩ := e2
        cases l
        cases l'
        simp only at e0 e1 e3 a b c
        subst e0 e1 e3 a b c
        rfl
      show Q (.bl (decide (V.str l.d = V.str l'.d))) H
      rw [e]
      exact k
    · exact ⟨_, rfl, _, _, _, _, _, rfl, .own _, ty, kt, _, rfl, ifF rfl k⟩
/-! texts -/
def laneText (l : LD) : Str := Txt.join blank [l.w, l.s, formText l.t l.q l.c, l.d]
theorem lane_eq (l : LD) : laneText l = l.w ++ (blank ++ (l.s ++ (blank ++ (formText l.t l.q l.c ++ (blank ++ l.d))))) := by
  have e : laneText l = Str.join blank [l.w, l.s, formText l.t l.q l.c, l.d] := StrLaws.glued_eq_join _ _
  rw [e]
  show l.w ++ blank ++ (l.s ++ blank ++ (formText l.t l.q l.c ++ blank ++ l.d)) = _
  simp only [Str.append_assoc]
theorem form_len {t q c : Int} (r : FormR t q c) : (formText t q c).length ≤ 70 := by
  have t1 := r.t1
  have q1 := r.q1
  have c1 := r.c1
  have c2 := r.c2
  have mt : Mid t := by unfold Mid; omega
  have mq : Mid q := by unfold Mid; omega
  have mc : Mid c := by unfold Mid; omega
  have b1 := upper_len mt mq
  have b2 := nS_mid mc
  have w1 : (Str.ofString "(").length = 1 := by decide
  have w2 : (Str.ofString ")/").length = 2 := by decide
  unfold formText
  split
  · omega
  · simp only [Str.length_append]
    omega
theorem small_word {y : Str} (h : y ∈ ways ∨ y ∈ signs ∨ y ∈ deeds) : y.length ≤ 4 := by
  unfold ways signs deeds at h
  simp only [List.mem_cons, List.not_mem_nil, or_false] at h
  rcases h with (h | h) | (h | h) | (h | h) <;> (subst h; decide)
theorem lane_len {l : LD} (i : LI l) : (laneText l).length ≤ 100 := by
  have a := form_len i.r
  have b := small_word (.inl i.w)
  have c := small_word (.inr (.inl i.s))
  have d := small_word (.inr (.inr i.d))
  have e : blank.length = 1 := by decide
  rw [lane_eq]
  simp only [Str.length_append]
  omega
def spLStr (CL CF : Addr) : Sp := fun vs H Q _ => ∃ (u : V) (l : LD), vs = [u] ∧ LaneO CL CF H u l ∧ Q (.str (laneText l)) H
theorem ok_lstr (T : Txt K mg) : FnOk P w K mg base CX0 5 T.a_Lane___str__ T.d_Lane___str__ ["self"] (spLStr T.c_Lane T.c_Form) := by
  have R_fmt : FnR P w K mg base CX0 3 T.a_Form___str__ (spFStr T.c_Form) := fnR (ok_fstr T) T.b_Form___str__
  refine T.F_Lane___str__.ok sc_Lane___str__ (fun vs H Q E h => ?_) (fun cdv A outer s H vs Q E hr h => ?_)
  · obtain ⟨u, l, rfl, _⟩ := h
    rfl
  · obtain ⟨u, l, rfl, ⟨x, dx, y, rfl, hx, hy, li⟩, k⟩ := h
    have nd := sc_Lane___str__.nd
    refine ⟨_, (pss_one (ps_ret (pe_joined (.cons (pe_fmt (pe_fld (pv 0) rfl)) (.cons pe_str (.cons (pe_fmt (pe_fld (pv 0) rfl)) (.cons pe_str (.cons (pe_fmtO (pe_fld (pv 0) rfl) T.F_Form T.M_Form___str__ R_fmt (hr.mono (by decide)) pass0) (.cons pe_str (.cons (pe_fmt (pe_fld (pv 0) rfl)) .nil)))))))))), ?_⟩
    have a := form_len li.r
    have b := small_word (.inl li.w)
    have c := small_word (.inr (.inl li.s))
    have d := small_word (.inr (.inr li.d))
    have e : blank.length = 1 := by decide
    have e9 := sizeLine_eq
    have e8 : (Str.ofString " ").length = 1 := e
    have w0 : Str.empty.length = 0 := rfl
    obtain ⟨dz, hz⟩ := id hy
    have r := li.r
    have t1 := r.t1
    have q1 := r.q1
    have c1 := r.c1
    have c2 := r.c2
    refine ret_go ⟨_, rfl, x, _, dx, _, _, rfl, hx, T.C_Lane, T.n_Lane_way, rfl, .inl ⟨_, rfl, by omega, _, rfl, by simp only [Str.length_append]; omega, ?_⟩⟩
    refine ⟨_, rfl, by simp only [Str.length_append]; omega, ?_⟩
    refine ⟨_, rfl, x, _, dx, _, _, rfl, hx, T.C_Lane, T.n_Lane_sign, rfl, .inl ⟨_, rfl, by omega, _, rfl, by simp only [Str.length_append]; omega, ?_⟩⟩
    refine ⟨_, rfl, by simp only [Str.length_append]; omega, ?_⟩
    refine ⟨_, rfl, x, _, dx, _, _, rfl, hx, T.C_Lane, T.n_Lane_shift, rfl, y, dz, _, rfl, hz, y, _, _, _, rfl, hy, by unfold Mid; omega, by unfold Mid; omega, c1, by unfold Mid; omega, _, rfl, _, rfl, by simp only [Str.length_append]; omega, ?_⟩
    refine ⟨_, rfl, by simp only [Str.length_append]; omega, ?_⟩
    refine ⟨_, rfl, x, _, dx, _, _, rfl, hx, T.C_Lane, T.n_Lane_deed, rfl, .inl ⟨_, rfl, by omega, _, rfl, by simp only [Str.length_append]; omega, ?_⟩⟩
    show Q (.str (Str.empty ++ l.w ++ blank ++ l.s ++ blank ++ formText l.t l.q l.c ++ blank ++ l.d)) H
    rw [lane_eq] at k
    simp only [Str.append_assoc, Str.empty_append]
    exact k
theorem un65 {k : Nat} {A : Around} (r : Room k A) : A.units + 65 < cLine := by
  have := r.un
  omega
theorem str_eqv {a b : Str} : PyData.eqv (.str a) (.str b) = decide (a = b) := by
  show (a == b) = _
  rw [Bool.eq_iff_iff]
  simp
theorem two_eqv {a b c d : Str} : PyData.eqv (.tuple [.str a, .str b]) (.tuple [.str c, .str d]) = decide (a = c ∧ b = d) := by
  show (PyData.eqv (.str a) (.str c) && (PyData.eqv (.str b) (.str d) && true)) = _
  rw [str_eqv, str_eqv, Bool.and_true, Bool.eq_iff_iff]
  simp
def lFol (l : LD) : Bool := decide ((l.w = Str.ofString "up" ∧ l.s = Str.ofString "-") ∨ (l.w = Str.ofString "down" ∧ l.s = Str.ofString "+"))
theorem fol_any {a b : Str} : ([PyData.tuple [.str (Str.ofString "up"), .str (Str.ofString "-")], .tuple [.str (Str.ofString "down"), .str (Str.ofString "+")]].any fun z => z.eqv (.tuple [.str a, .str b])) = decide ((a = Str.ofString "up" ∧ b = Str.ofString "-") ∨ (a = Str.ofString "down" ∧ b = Str.ofString "+")) := by
  show ((PyData.eqv (.tuple [.str (Str.ofString "up"), .str (Str.ofString "-")]) (.tuple [.str a, .str b])) || ((PyData.eqv (.tuple [.str (Str.ofString "down"), .str (Str.ofString "+")]) (.tuple [.str a, .str b])) || false)) = _
  rw [two_eqv, two_eqv, Bool.or_false, Bool.eq_iff_iff]
  simp only [Bool.or_eq_true, decide_eq_true_eq]
  constructor
  · rintro (⟨h1, h2⟩ | ⟨h1, h2⟩)
    · exact .inl ⟨h1.symm, h2.symm⟩
    · exact .inr ⟨h1.symm, h2.symm⟩
  · rintro (⟨h1, h2⟩ | ⟨h1, h2⟩)
    · exact .inl ⟨h1.symm, h2.symm⟩
    · exact .inr ⟨h1.symm, h2.symm⟩
theorem word_ok {y : Str} (h : y ∈ ways ∨ y ∈ signs ∨ y ∈ deeds) : PyData.canLay0 (.str y) = true := by
  unfold ways signs deeds at h
  simp only [List.mem_cons, List.not_mem_nil, or_false] at h
  rcases h with (h | h) | (h | h) | (h | h) <;> (subst h; decide +kernel)
theorem two_ok {a b : Str} (ha : PyData.canLay0 (.str a) = true) (hb : PyData.canLay0 (.str b) = true) : okD 1 (.tuple [.str a, .str b]) := okD.tuple fun d hd => by
  simp only [List.mem_cons, List.not_mem_nil, or_false] at hd
  rcases hd with rfl | rfl
  · exact ⟨ha, Nat.zero_le _⟩
  · exact ⟨hb, Nat.zero_le _⟩
theorem fols_ok : okD 2 (.tuple [PyData.tuple [.str (Str.ofString "up"), .str (Str.ofString "-")], .tuple [.str (Str.ofString "down"), .str (Str.ofString "+")]]) := okD.tuple fun d hd => by
  simp only [List.mem_cons, List.not_mem_nil, or_false] at hd
  rcases hd with rfl | rfl
  · exact two_ok (by decide +kernel) (by decide +kernel)
  · exact two_ok (by decide +kernel) (by decide +kernel)

end
end K17
namespace K17
open PySem PySem.Spec PyProof.Rows L2 Rs
local macro_rules | `(tactic| walk_at "om") => `(tactic| first | omega | (dsimp only; omega))
local macro_rules | `(tactic| walk_at "side") => `(tactic| first | omega | (dsimp only; omega) | decide | (unfold CMul; omega) | (unfold CDiv; omega) | (unfold CPow; omega) | exact wide_div (b := 64) (by omega) (by omega) (by decide) (by decide))
local macro_rules | `(tactic| walk_at "hp") => `(tactic| first | assumption | exact upd_same)
local macro_rules | `(tactic| walk_at "sq") => `(tactic| first | assumption | exact SqL.of (by assumption) | exact SqL.of upd_same)
local macro_rules | `(tactic| walk_at "st") => `(tactic| first
  | refine ⟨_, rfl, ?_⟩
  | (refine ⟨_, _, rfl, rfl, And.intro ?side ?_⟩; (case side => walk_at "side"))
  | refine ⟨_, _, rfl, rfl, ?_⟩
  | (refine' ⟨_, _, _, _, rfl, rfl, SqL.of ?hp, ?atx, ?_⟩; (case hp => walk_at "hp"); (case atx => exact rfl))
  | (refine' ⟨_, _, _, _, rfl, rfl, ?hp, ?atx, ?_⟩; (case hp => walk_at "hp"); (case atx => exact rfl))
  | (refine' ⟨_, _, rfl, Or.inl ?sq, ?_⟩; (case sq => walk_at "sq"))
  | refine Or.inl ⟨_, rfl, ?_⟩
  | refine Or.inr ⟨_, rfl, ?_⟩)
local macro_rules | `(tactic| walk_at "evd") => `(tactic| first
  | exact evd_int
  | exact evd_str
  | exact evd_non
  | exact evd_bl
  | exact evd_nil
  | (refine evd_cons ?_ (fun _ => ?_) <;> walk_at "evd")
  | (refine evd_tup ?_ (Nat.le_of_ble_eq_true rfl); walk_at "evd"))

section
variable {P : Program} {w : World} {K : PySem.W.Frag} {mg : Str → Option Value} {base : Heap}
theorem sla_any {K : PySem.W.Frag} {H : Hp} {a : Addr} {xs : List V} {lo hi : Option Int} {Q : VK} (h : SqT K H a xs) (q : ∀ t H', Same H H' → SqT K H' t (cutV xs lo hi) → Q (.ref t) H') : rSlA K (.ref a) lo hi H Q := by
  refine ⟨a, xs, rfl, h, fun e => ?_, fun _ p np => q p _ (same_new np) (SqT.of upd_same)⟩
  have e2 : cutV xs lo hi = xs := by
    unfold cutV
    rw [e.1, e.2, List.drop_zero, Nat.sub_zero, List.take_length]
  exact q a H (Same.refl _) (by rw [e2]; exact h)
/-! the law's own lanes -/
def spLaneText (K : PySem.W.Frag) : Sp := fun vs H Q _ => ∃ (v : V) (l : LD), vs = [v] ∧ LaneV H v l ∧ ∀ H', Same H H' → Q (.str (laneText l)) H'
def spLaneOf (CL CF : Addr) : Sp := fun vs H Q _ => ∃ (v : V) (l : LD), vs = [v] ∧ LaneV H v l ∧ ∀ u H', Same H H' → LaneO CL CF H' u l → Q u H'

/-- two lists, item by item -/
inductive AllR {α β : Type} (R : α → β → Prop) : List α → List β → Prop where
  | nil : AllR R [] []
  | cons {a : α} {b : β} {as : List α} {bs : List β} : R a b → AllR R as bs → AllR R (a :: as) (b :: bs)
theorem AllR.length {α β : Type} {R : α → β → Prop} {as : List α} {bs : List β} (h : AllR R as bs) : as.length = bs.length := by
  induction h with
  | nil => rfl
  | cons _ _ ih => rw [List.length_cons, List.length_cons, ih]
theorem AllR.mono {α β : Type} {R S : α → β → Prop} {as : List α} {bs : List β} (h : AllR R as bs) (k : ∀ a b, R a b → S a b) : AllR S as bs := by
  induction h with
  | nil => exact .nil
  | cons z _ ih => exact .cons (k _ _ z) ih
theorem AllR.snoc {α β : Type} {R : α → β → Prop} {as : List α} {bs : List β} {a : α} {b : β} (h : AllR R as bs) (z : R a b) : AllR R (as ++ [a]) (bs ++ [b]) := by
  induction h with
  | nil => exact .cons z .nil
  | cons y _ ih => exact .cons y ih
theorem AllR.get {α β : Type} {R : α → β → Prop} {as : List α} {bs : List β} (h : AllR R as bs) : ∀ {i : Nat} {a : α}, as[i]? = some a → ∃ b, bs[i]? = some b ∧ R a b := by
  induction h with
  | nil => intro i a e; cases e
  | cons z _ ih =>
    intro i a e
    cases i with
    | zero => cases e; exact ⟨_, rfl, z⟩
    | succ i => exact ih e
theorem AllR.left {α β : Type} {R : α → β → Prop} {as : List α} {bs : List β} (h : AllR R as bs) {a : α} (m : a ∈ as) : ∃ b, b ∈ bs ∧ R a b := by
  obtain ⟨i, e⟩ := List.getElem?_of_mem m
  obtain ⟨b, eb, r⟩ := h.get e
  exact ⟨b, List.mem_of_getElem? eb, r⟩
/-- a drawn block's data -/
structure BD where
  t : Int
  q : Int
  c : Int
  ls : List LD
  deriving DecidableEq
structure FB (t q c : Int) : Prop where
  t1 : -1000 ≤ t
  t2 : t ≤ 1000
  q1 : -1000 ≤ q
  q2 : q ≤ 1000
  c1 : 1 ≤ c
  c2 : c ≤ 9
theorem FB.r {t q c : Int} (h : FB t q c) : FormR t q c := by
  have := h.t1
  have := h.t2
  have := h.q1
  have := h.q2
  have := h.c1
  have := h.c2
  exact ⟨by omega, by omega, by omega, by omega⟩
structure BI (d : BD) : Prop where
  r : FB d.t d.q d.c
  l0 : 0 < d.ls.length
  l1 : d.ls.length ≤ 60
  li : ∀ l ∈ d.ls, LI l
def FormV (H : Hp) (v : V) (t q c : Int) : Prop := ∃ p, v = .ref p ∧ H p = some (.tup [.int t, .int q, .int c]) ∧ FB t q c
def FormW (H : Hp) (v : V) : Prop := ∃ t q c, FormV H v t q c
theorem FormW.fz {H H' : Hp} {v : V} (h : FormW H v) (k : Fz H H') : FormW H' v := by
  obtain ⟨t, q, c, p, e, hp, r⟩ := h
  exact ⟨t, q, c, p, e, k _ _ trivial hp, r⟩
/-- a drawn block; its list of lanes does not stand at b -/
def BlockV (b : Addr) (H : Hp) (v : V) (d : BD) : Prop := ∃ p f L vs, v = .ref p ∧ H p = some (.tup [.ref f, .ref L]) ∧ H f = some (.tup [.int d.t, .int d.q, .int d.c]) ∧ L ≠ b ∧ H L = some (.lst vs) ∧ AllR (LaneV H) vs d.ls ∧ BI d
theorem LaneV.same {H H' : Hp} {v : V} {l : LD} (h : LaneV H v l) (k : Same H H') : LaneV H' v l := h.fz (Fz.of_same k)
theorem BlockV.same {b : Addr} {H H' : Hp} {v : V} {d : BD} (h : BlockV b H v d) (k : Same H H') : BlockV b H' v d := by
  obtain ⟨p, f, L, vs, e, hp, hf, ne, hL, a, i⟩ := h
  exact ⟨p, f, L, vs, e, k _ _ hp, k _ _ hf, ne, k _ _ hL, a.mono fun v l h => h.same k, i⟩
theorem BlockV.but {b : Addr} {H H' : Hp} {v : V} {d : BD} (h : BlockV b H v d) (B : Box H b) (k : But b H H') : BlockV b H' v d := by
  obtain ⟨p, f, L, vs, e, hp, hf, ne, hL, a, i⟩ := h
  have z := B.fz k
  exact ⟨p, f, L, vs, e, z _ _ trivial hp, z _ _ trivial hf, ne, k _ _ ne hL, a.mono fun v l h => h.fz z, i⟩
/-- t gives a value that R tells, and only makes objects -/
def EvP (te : TE) (σ : L2.St) (H : Hp) (R : Hp → V → Prop) : Prop := ∀ Q : VK, (∀ v H', Same H H' → R H' v → Q v H') → te σ H Q
structure EvI (te : TE) (σ : L2.St) (i : Int) : Prop where
  go : ∀ (H : Hp) (Q : VK), Q (.int i) H → te σ H Q
theorem evi_c {i : Int} {σ : L2.St} : EvI (tC (.int i)) σ i := ⟨fun _ _ q => q⟩
theorem evi_m {i j : Int} {σ : L2.St} : EvI (tOp (rI0 fun i j => .int (i - j)) (tC (.int i)) (tC (.int j))) σ (i - j) := ⟨fun _ _ q => ⟨_, _, rfl, rfl, q⟩⟩
theorem evp_form {a b c : TE} {t q k : Int} {σ : L2.St} {H : Hp} (ha : EvI a σ t) (hb : EvI b σ q) (hc : EvI c σ k) (h : -1000 ≤ t ∧ t ≤ 1000 ∧ -1000 ≤ q ∧ q ≤ 1000 ∧ 1 ≤ k ∧ k ≤ 9) : EvP (tTup (tCons a (tCons b (tCons c tNil)))) σ H FormW := fun Q g =>
  ha.go _ _ (hb.go _ _ (hc.go _ _ ⟨szL (Nat.le_of_ble_eq_true rfl), fun p np => g _ _ (same_new np) ⟨t, q, k, p, rfl, upd_same, ⟨h.1, h.2.1, h.2.2.1, h.2.2.2.1, h.2.2.2.2.1, h.2.2.2.2.2⟩⟩⟩))
theorem ev_cons {te : TE} {ta : TA} {σ : L2.St} {H : Hp} {Q : List V → Hp → Prop} {R : Hp → V → Prop} (h : EvP te σ H R) (q : ∀ v H1, Same H H1 → R H1 v → ta σ H1 (fun vs H2 => Q (v :: vs) H2)) : tCons te ta σ H Q := h _ fun v H1 s r => q v H1 s r
theorem ev_lst {ta : TA} {Q : VK} {σ : L2.St} {H : Hp} (h : ta σ H (fun vs H1 => vs.length ≤ sizeLine ∧ ∀ l, H1 l = none → Q (.ref l) (upd H1 l (.lst vs)))) : tLst ta σ H Q := h
theorem ev_arg {te : TE} {Q : List V → Hp → Prop} {σ : L2.St} {H : Hp} (h : te σ H (fun v H1 => Q [v] H1)) : tCons te tNil σ H Q := h
/-- its list of lanes does not stand at D -/
def Off (D : Addr) (H : Hp) (v : V) : Prop := ∃ p f L, v = .ref p ∧ H p = some (.tup [f, .ref L]) ∧ L ≠ D
theorem Off.fz {D : Addr} {H H' : Hp} {v : V} (h : Off D H v) (k : Fz H H') : Off D H' v := by
  obtain ⟨p, f, L, e, hp, n⟩ := h
  exact ⟨p, f, L, e, k _ _ trivial hp, n⟩
theorem BlockV.upd {b D : Addr} {H : Hp} {v : V} {d : BD} {xs : List V} {o : HO} (h : BlockV b H v d) (n : Off D H v) (e : H D = some (.lst xs)) : BlockV b (upd H D o) v d := by
  obtain ⟨p, f, L, vs, rfl, hp, hf, ne, hL, a, i⟩ := h
  obtain ⟨p', f', L', e', hp', n⟩ := n
  cases e'
  rw [hp] at hp'
  have e2 := Option.some.inj hp'
  injection e2 with e2
  injection e2 with _ e2
  injection e2 with e2 _
  injection e2 with e2
  subst e2
  have z : Fz H (L2.upd H D o) := Fz.lst e
  exact ⟨p, f, L, vs, rfl, z _ _ trivial hp, z _ _ trivial hf, ne, by rw [upd_ne n]; exact hL, a.mono fun v l h => h.fz z, i⟩
def spBlock : Sp := fun vs H Q _ => ∃ (b : Addr) (many far : Int), vs = [.ref b, .int many, .int far] ∧ Box H b ∧ 0 < many ∧ many ≤ 50 ∧ 0 < far ∧ far ≤ 1000 ∧
  ∀ (v : V) (d : BD) (H' : Hp), d.ls.length ≤ 50 → BlockV b H' v d → (∀ D o, H D = some o → Off D H' v) → Box H' b → But b H H' → Q v H'

theorem tyx_same {K : PySem.W.Frag} {H H' : Hp} {v : V} {t : Value} (s : Same H H') (h : TyX K H v t) : TyX K H' v t := by
  cases h with
  | base b =>
    cases b with
    | non => exact .base .non
    | bl x => exact .base (.bl x)
    | int x => exact .base (.int x)
    | str x => exact .base (.str x)
    | flt x => exact .base (.flt x)
    | lst e => exact .base (.lst (s _ _ e))
    | frz e => exact .base (.frz (s _ _ e))
    | tup e => exact .base (.tup (s _ _ e))
    | dK e => exact .base (.dK (s _ _ e))
    | dT e => exact .base (.dT (s _ _ e))
    | ins e c ha hn ht hm => exact .base (.ins (s _ _ e) c ha hn ht hm)
  | byt x => exact .byt x
  | set e => exact .set (s _ _ e)
  | kList e c => exact .kList e c
  | kTuple e c => exact .kTuple e c
  | kDict e c => exact .kDict e c
  | fTuple e => exact .fTuple (s _ _ e)
  | fDict e => exact .fDict (s _ _ e)
/-- whether a value is a list or a tuple -/
def spSeq (K : PySem.W.Frag) : Sp := fun vs H Q _ => ∃ (v : V) (t : Value) (r : Bool), vs = [v] ∧ TyX K H v t ∧ PySem.W.kitAny K t [.type "list", .type "tuple"] = some r ∧ ∀ H', Same H H' → Q (.bl r) H'
theorem ok_seq (T : Txt K mg) : FnOk P w K mg base CX0 1 T.a_is_sequence T.d_is_sequence ["value"] (spSeq K) := by
  refine T.F_is_sequence.ok sc_is_sequence (fun vs H Q E h => ?_) (fun cdv A outer s H vs Q E hr h => ?_)
  · obtain ⟨v, t, r, rfl, _⟩ := h
    rfl
  · obtain ⟨v, t, r, rfl, ty, kt, k⟩ := h
    have nd := sc_is_sequence.nd
    refine ⟨_, (pss_one (ps_ret (pe_callB call_isiT (by rfl) T.z_isinstance (by decide +kernel) (pa_cons (pv 0) (pa_cons (pe_tup (pa_cons (pe_bltn (v := .ty "list") (u := .type "list") (by rfl) T.z_list (by decide +kernel) (by exact rfl)) (pa_cons (pe_bltn (v := .ty "tuple") (u := .type "tuple") (by rfl) T.z_tuple (by decide +kernel) (by exact rfl)) pa_nil))) pa_nil))))), ?_⟩
    refine ⟨_, rfl, szL (Nat.le_of_ble_eq_true rfl), fun p np => ?_⟩
    have z : TyX K (upd H p (.tup [.ty "list", .ty "tuple"])) v t := tyx_same (same_new np) ty
    exact ⟨v, p, _, t, _, r, rfl, upd_same, .cons (.ty _) (.cons (.ty _) .nil), z, kt, k _ (same_new np)⟩
theorem kit_seq_list {K : PySem.W.Frag} : PySem.W.kitAny K (.type "list") [.type "list", .type "tuple"] = some true := by
  unfold PySem.W.kitAny
  rw [show PySem.W.kitOne K (.type "list") (.type "list") = some true from by simp [PySem.W.kitOne]]
theorem kit_seq_tup {K : PySem.W.Frag} : PySem.W.kitAny K (.type "tuple") [.type "list", .type "tuple"] = some true := by
  unfold PySem.W.kitAny
  rw [show PySem.W.kitOne K (.type "tuple") (.type "list") = some false from kit_ty (by decide +kernel)]
  unfold PySem.W.kitAny
  rw [show PySem.W.kitOne K (.type "tuple") (.type "tuple") = some true from by simp [PySem.W.kitOne]]
theorem call_isiC {X : Cx} {K : PySem.W.Frag} (e : X.K = K) : CallR X (.builtin "isinstance") (rIsi K) := by
  subst e
  exact call_isi
/-- a list or a tuple, walked -/
def iSeqA (K : PySem.W.Frag) (tl : TE) : TI := fun σ H R => tl σ H fun v H1 => ∃ a, v = .ref a ∧ ((∃ xs, SqL K H1 a xs ∧ R (Itl K a) H1) ∨ (∃ xs, SqT K H1 a xs ∧ R (Itt K a) H1))
theorem pi_seqA {X : Cx} {tg l : Expr} {tl : TE} (hl : PE X l tl) : PI X tg l (iSeqA X.K tl) := by
  refine ⟨fun pins s σ H R I h => thn (hl.run pins s σ H _ I h) fun v u res => ?_⟩
  obtain ⟨x, G, J, rx, a, ex, way⟩ := res
  subst ex
  cases rx
  have new : ∀ c ∈ [u.heap.objs.size], FpOk X pins G c := fun c hc => by
    obtain rfl : c = u.heap.objs.size := by simpa using hc
    exact J.fpOk (Nat.le_refl _) (J.hok.fresh (Nat.le_refl _))
  rcases way with ⟨xs, hq, q⟩ | ⟨xs, hq, q⟩
  · obtain ⟨its, rv, p, _⟩ := J.list hq
    refine wpAny_pyIter_list p.isList ⟨u.heap.objs.size, [u.heap.objs.size], _, _, G, rfl, ?_, turn_list a _, ⟨_, Heap.get?_push_size _ rfl, rfl, rfl⟩, new, q⟩
    exact J.kept (t' := u.toks) fun c r z => Heap.get?_push_of_some _ z
  · obtain ⟨its, rv, p, _⟩ := J.tuple hq
    refine wpAny_pyIter_tuple (show u.heap.IsTuple a its.toArray from p) ⟨u.heap.objs.size, [u.heap.objs.size], _, _, G, rfl, ?_, turn_tuple a _, ⟨_, Heap.get?_push_size _ rfl, rfl, rfl⟩, new, q⟩
    exact J.kept (t' := u.toks) fun c r z => Heap.get?_push_of_some _ z

end
end K17
namespace K17
open PySem PySem.Spec PyProof.Rows L2 Rs
local macro_rules | `(tactic| walk_at "om") => `(tactic| first | omega | (dsimp only; omega))
local macro_rules | `(tactic| walk_at "side") => `(tactic| first | omega | (dsimp only; omega) | decide | (unfold CMul; omega) | (unfold CDiv; omega) | (unfold CPow; omega) | exact wide_div (b := 64) (by omega) (by omega) (by decide) (by decide))
local macro_rules | `(tactic| walk_at "hp") => `(tactic| first | assumption | exact upd_same)
local macro_rules | `(tactic| walk_at "sq") => `(tactic| first | assumption | exact SqL.of (by assumption) | exact SqL.of upd_same)
local macro_rules | `(tactic| walk_at "st") => `(tactic| first
  | refine ⟨_, rfl, ?_⟩
  | (refine ⟨_, _, rfl, rfl, And.intro ?side ?_⟩; (case side => walk_at "side"))
  | refine ⟨_, _, rfl, rfl, ?_⟩
  | (refine' ⟨_, _, _, _, rfl, rfl, SqL.of ?hp, ?atx, ?_⟩; (case hp => walk_at "hp"); (case atx => exact rfl))
  | (refine' ⟨_, _, _, _, rfl, rfl, ?hp, ?atx, ?_⟩; (case hp => walk_at "hp"); (case atx => exact rfl))
  | (refine' ⟨_, _, rfl, Or.inl ?sq, ?_⟩; (case sq => walk_at "sq"))
  | refine Or.inl ⟨_, rfl, ?_⟩
  | refine Or.inr ⟨_, rfl, ?_⟩)
local macro_rules | `(tactic| walk_at "evd") => `(tactic| first
  | exact evd_int
  | exact evd_str
  | exact evd_non
  | exact evd_bl
  | exact evd_nil
  | (refine evd_cons ?_ (fun _ => ?_) <;> walk_at "evd")
  | (refine evd_tup ?_ (Nat.le_of_ble_eq_true rfl); walk_at "evd"))

section
variable {P : Program} {w : World} {K : PySem.W.Frag} {mg : Str → Option Value} {base : Heap}
def LaneI (CL : Addr) (H : Hp) (v : V) : Prop := ∃ z dz gs, v = .ref z ∧ H z = some (.ins CL dz gs)
theorem upd_mid2 {H : Hp} {x tp : Addr} {o1 o2 o3 : HO} (n : tp ≠ x) : upd (upd (upd H x o1) tp o2) x o3 = upd (upd H tp o2) x o3 := by
  funext a
  by_cases ha : a = x
  · subst ha; rw [upd_same, upd_same]
  · rw [upd_ne ha, upd_ne ha]
    by_cases hb : a = tp
    · subst hb; rw [upd_same, upd_same]
    · rw [upd_ne hb, upd_ne hb, upd_ne ha]
def fldB (y tp : Addr) : List (Str × V) := putF "lanes" (.ref tp) (putF "rounds" (.ref y) [])
def spBlockG (K : PySem.W.Frag) (CB CF CL : Addr) : Sp := fun vs H Q _ => ∃ (x dx y a : Addr) (us : List V), vs = [.ref x, .ref y, .ref a] ∧ H x = some (.ins CB dx []) ∧ (∃ dy fs, H y = some (.ins CF dy fs)) ∧ (H a = some (.lst us) ∨ H a = some (.tup us)) ∧ 0 < us.length ∧ us.length ≤ 101 ∧ (∀ u ∈ us, LaneI CL H u) ∧
  ∀ H' tp, Same H H' → H' tp = some (.tup us) → Q .non (upd H' x (.ins CB dx (fldB y tp)))
theorem ok_blockG (T : Txt K mg) : FnOk P w K mg base CX0 2 T.a_Block___init__ T.d_Block___init__ ["self", "rounds", "lanes"] (spBlockG K T.c_Block T.c_Form T.c_Lane) := by
  have G_is_sequence : FnOk P w K mg base CX0 1 T.a_is_sequence T.d_is_sequence ["value"] (spSeq K) := ok_seq T
  refine T.F_Block___init__.ok sc_Block___init__ (fun vs H Q E h => ?_) (fun cdv A outer s H vs Q E hr h => ?_)
  · obtain ⟨x, dx, y, a, us, rfl, _⟩ := h
    rfl
  · obtain ⟨x, dx, y, a, us, rfl, hx, ⟨dy, fs, hy⟩, hseq, l0, l1, hls, k⟩ := h
    have nd := sc_Block___init__.nd
    refine ⟨_, (pss_cons (ps_if (pt_not (pt_val (pe_callB call_isi (by rfl) T.z_isinstance (by decide +kernel) (pa_cons (pv 1) (pa_cons (pe_glob rfl T.m_Form (rel_ref _)) pa_nil))))) (pss_one ps_never) pss_nil)
    (pss_cons (ps_if (PW.pt (pw_or (pt_not (pt_val (pe_call G_is_sequence (hr.mono (by first | decide | omega)) (by rfl) T.m_is_sequence T.k_is_sequence T.b_is_sequence .nil pass0 (pa_cons (pv 2) pa_nil)))) (pw_or1 (pt_cmpR op_eq (pe_callB call_len_seq (by rfl) T.z_len (by decide +kernel) (pa_cons (pv 2) pa_nil)) pe_int (nomark _))))) (pss_one ps_never) pss_nil)
    (pss_cons (ps_if (pt_not (pt_val (pe_callB (cr_all rfl) (by rfl) T.z_all (by decide +kernel) (pa_cons (pe_lc (own := [("lane", 3)]) (g := (gName 3)) (by rfl) nd (pi_seqA (pv 2)) (blkOk_by (N := ["self", "rounds", "lanes", "lane"]) (sc := defScope s_Block___init__) (own := [("lane", 3)]) (by decide +kernel)) (fun _ _ _ _ _ => by exact (pg_name (i := 3) nd rfl (Or.inl rfl))) (fun _ _ _ _ _ => by exact pts_nil) (fun _ _ _ _ _ => by exact (pe_callB (call_isiC (K := K) rfl) (by rfl) T.z_isinstance (by decide +kernel) (pa_cons (pv 3) (pa_cons (pe_glob rfl T.m_Lane (rel_ref _)) pa_nil))))) pa_nil)))) (pss_one ps_never) pss_nil)
    (pss_cons (ps_fld (pv 0) (pv 1) rfl)
    (pss_one (ps_fld (pv 0) (pe_callTy call_tuple_of (by rfl) T.z_tuple (by decide +kernel) (pa_cons (pv 2) pa_nil)) rfl)))))), ?_⟩
    refine ⟨_, rfl, _, _, _, _, _, rfl, .own _, T.I_Form.ty T.C_Form hy, kit_self, _, rfl, ifF rfl ?_⟩
    have e0 : decide (V.int (us.length : Nat) = V.int 0) = false := decide_eq_false (fun h => by injection h with h; omega)
    have nax : a ≠ x := by
      rintro rfl
      rcases hseq with h | h <;> (rw [hx] at h; cases h)
    rcases hseq with hL | hL
    · refine ⟨_, rfl, _, _, _, rfl, .base (.lst hL), kit_seq_list, fun H1 s1 => ?_⟩
      have hL1 := s1 _ _ hL
      refine ⟨_, rfl, ifF rfl ?_⟩
      refine ⟨_, rfl, _, _, rfl, .inl (SqL.of hL1), rfl, _, rfl, ifF e0 ?_⟩
      refine ⟨_, rfl, a, rfl, .inl ⟨us, SqL.of hL1, fun D hD => ?_⟩⟩
      refine lc_list (xs := us) (fun i Hc => Hc D = some (.lst ((List.replicate i true).map V.bl)) ∧ Same H1 Hc) ⟨upd_same, same_new hD⟩ (fun i Hc _ hP => SqL.of (hP.2 _ _ hL1)) (fun i y Hc hy hP => ?_) (fun Hc hP => ?_)
      · obtain ⟨hDc, sc⟩ := hP
        obtain ⟨z, dz, gs, rfl, hz⟩ := hls y (List.mem_of_getElem? hy)
        have hn := (List.getElem?_eq_some_iff.mp hy).1
        refine ⟨rfl, _, rfl, _, _, _, _, _, rfl, .own _, T.I_Lane.ty T.C_Lane (sc _ _ (s1 _ _ hz)), kit_self, ?_⟩
        exact ⟨_, hDc, szl (by rw [List.length_map, List.length_replicate]; omega), by rw [upd_same, List.replicate_succ', List.map_append]; rfl, same_lst sc hD⟩
      · obtain ⟨hDc, sc⟩ := hP
        refine ⟨D, List.replicate us.length true, rfl, SqL.of hDc, _, rfl, ifF (by simp) ?_⟩
        have sH := s1.trans sc
        refine ⟨_, rfl, _, rfl, x, T.c_Block, dx, _, rfl, sH _ _ hx, T.C_Block, T.n_Block_rounds, by decide, ?_⟩
        refine ⟨_, rfl, a, _, rfl, .inl ⟨SqL.of (by rw [upd_ne nax]; exact sH _ _ hL), fun tp ntp => ?_⟩⟩
        have ntx : tp ≠ x := by
          rintro rfl
          rw [upd_same] at ntp
          cases ntp
        refine ⟨_, rfl, x, T.c_Block, dx, _, rfl, by rw [upd_ne (Ne.symm ntx)]; exact upd_same, T.C_Block, T.n_Block_lanes, by show 1 < 1000; decide, ?_⟩
        have ntp' : Hc tp = none := by rw [upd_ne ntx] at ntp; exact ntp
        show Q .non _
        rw [upd_mid2 ntx]
        exact k _ tp (sH.trans (same_new ntp')) upd_same
    · refine ⟨_, rfl, _, _, _, rfl, .base (.tup hL), kit_seq_tup, fun H1 s1 => ?_⟩
      have hL1 := s1 _ _ hL
      refine ⟨_, rfl, ifF rfl ?_⟩
      refine ⟨_, rfl, _, _, rfl, .inr (.inl (.inl hL1)), rfl, _, rfl, ifF e0 ?_⟩
      refine ⟨_, rfl, a, rfl, .inr ⟨us, SqT.of hL1, fun D hD => ?_⟩⟩
      refine lc_tup (xs := us) (fun i Hc => Hc D = some (.lst ((List.replicate i true).map V.bl)) ∧ Same H1 Hc) ⟨upd_same, same_new hD⟩ (fun i Hc _ hP => SqT.of (hP.2 _ _ hL1)) (fun i y Hc hy hP => ?_) (fun Hc hP => ?_)
      · obtain ⟨hDc, sc⟩ := hP
        obtain ⟨z, dz, gs, rfl, hz⟩ := hls y (List.mem_of_getElem? hy)
        have hn := (List.getElem?_eq_some_iff.mp hy).1
        refine ⟨rfl, _, rfl, _, _, _, _, _, rfl, .own _, T.I_Lane.ty T.C_Lane (sc _ _ (s1 _ _ hz)), kit_self, ?_⟩
        exact ⟨_, hDc, szl (by rw [List.length_map, List.length_replicate]; omega), by rw [upd_same, List.replicate_succ', List.map_append]; rfl, same_lst sc hD⟩
      · obtain ⟨hDc, sc⟩ := hP
        refine ⟨D, List.replicate us.length true, rfl, SqL.of hDc, _, rfl, ifF (by simp) ?_⟩
        have sH := s1.trans sc
        refine ⟨_, rfl, _, rfl, x, T.c_Block, dx, _, rfl, sH _ _ hx, T.C_Block, T.n_Block_rounds, by decide, ?_⟩
        refine ⟨_, rfl, a, _, rfl, .inr ⟨SqT.of (by rw [upd_ne nax]; exact sH _ _ hL), ?_⟩⟩
        refine ⟨_, rfl, x, T.c_Block, dx, _, rfl, upd_same, T.C_Block, T.n_Block_lanes, by show 1 < 1000; decide, ?_⟩
        show Q .non _
        rw [upd_upd]
        exact k _ a sH (sH _ _ hL)

theorem fldL_eq (l : LD) (y : Addr) : fldL l y = [(Str.ofString "way", V.str l.w), (Str.ofString "sign", V.str l.s), (Str.ofString "shift", V.ref y), (Str.ofString "deed", V.str l.d)] := rfl
theorem fldB_eq (y tp : Addr) : fldB y tp = [(Str.ofString "rounds", V.ref y), (Str.ofString "lanes", V.ref tp)] := rfl
theorem fldF_inj {t q c t' q' c' : Int} (h : fldF t q c = fldF t' q' c') : t = t' ∧ q = q' ∧ c = c' := by
  have h : [(Str.ofString "times", V.int t), (Str.ofString "plus", V.int q), (Str.ofString "by", V.int c)] = [(Str.ofString "times", V.int t'), (Str.ofString "plus", V.int q'), (Str.ofString "by", V.int c')] := h
  simp only [List.cons.injEq, Prod.mk.injEq, V.int.injEq, true_and, and_true] at h
  exact h
theorem FormO.inj {C : Addr} {H : Hp} {x : Addr} {t q c t' q' c' : Int} (h : FormO C H x t q c) (h' : FormO C H x t' q' c') : t = t' ∧ q = q' ∧ c = c' := by
  obtain ⟨dx, h⟩ := h
  obtain ⟨dx', h'⟩ := h'
  rw [h] at h'
  have e := Option.some.inj h'
  injection e with _ _ e
  exact fldF_inj e
theorem LaneO.inj {CL CF : Addr} {H : Hp} {v : V} {l l' : LD} (h : LaneO CL CF H v l) (h' : LaneO CL CF H v l') : l = l' := by
  obtain ⟨x, dx, y, rfl, hx, hy, _⟩ := h
  obtain ⟨x', dx', y', e, hx', hy', _⟩ := h'
  cases e
  rw [hx] at hx'
  have e := Option.some.inj hx'
  injection e with _ _ e
  rw [fldL_eq, fldL_eq] at e
  simp only [List.cons.injEq, Prod.mk.injEq, V.str.injEq, V.ref.injEq, true_and, and_true] at e
  obtain ⟨e1, e2, e3, e4⟩ := e
  subst e3
  obtain ⟨f1, f2, f3⟩ := hy.inj hy'
  cases l
  cases l'
  simp only at e1 e2 e4 f1 f2 f3
  subst e1 e2 e4 f1 f2 f3
  rfl
theorem AllR.fn {α β : Type} {R : α → β → Prop} {as : List α} {bs cs : List β} (k : ∀ a b c, R a b → R a c → b = c) (h : AllR R as bs) : AllR R as cs → bs = cs := by
  induction h generalizing cs with
  | nil => intro h2; cases h2; rfl
  | cons z _ ih => intro h2; cases h2 with | cons z2 r2 => rw [k _ _ _ z z2, ih r2]
theorem LaneO.same {CL CF : Addr} {H H' : Hp} {v : V} {l : LD} (h : LaneO CL CF H v l) (k : Same H H') : LaneO CL CF H' v l := h.fz (Fz.of_same k)
theorem LaneO.ins {CL CF : Addr} {H : Hp} {v : V} {l : LD} (h : LaneO CL CF H v l) : LaneI CL H v := by
  obtain ⟨x, dx, y, e, hx, _⟩ := h
  exact ⟨x, dx, _, e, hx⟩
/-- whether two lanes are equal -/
def SL (CL CF : Addr) (a b : Addr) (r : Bool) (H : Hp) : Prop := ∃ l l', LaneO CL CF H (.ref a) l ∧ LaneO CL CF H (.ref b) l' ∧ r = decide (l = l')
theorem SL.mon {CL CF : Addr} (a b : Addr) (r : Bool) (H H' : Hp) (e : Ext H H') (h : SL CL CF a b r H) : SL CL CF a b r H' := by
  obtain ⟨l, l', h1, h2, h3⟩ := h
  exact ⟨l, l', h1.same e, h2.same e, h3⟩
theorem SL.ask {CL CF : Addr} (a b : Addr) (r : Bool) (H : Hp) (h : SL CL CF a b r H) : spLEq K CL CF [.ref a, .ref b] H (fun v H' => v = .bl r ∧ Ext H H') E0 := by
  obtain ⟨l, l', h1, h2, rfl⟩ := h
  exact ⟨_, _, l, rfl, h1, .inl ⟨l', h2, rfl, fun _ _ x => x⟩⟩
theorem refs {C : Addr} {S : Addr → Addr → Bool → Hp → Prop} (x y : V) (r : Bool) (H : Hp) (h : DInsB C S x y r H) : ∃ a b, x = .ref a ∧ y = .ref b ∧ (a = b → r = true) := by
  obtain ⟨a, b, _, _, _, _, e1, e2, _, _, _, e3⟩ := h
  exact ⟨a, b, e1, e2, e3⟩
theorem SL.tup {CL CF : Addr} {H : Hp} {p p' : Addr} {us us' : List V} {ls ls' : List LD} (h1 : H p = some (.tup us)) (h2 : H p' = some (.tup us')) (a1 : AllR (LaneO CL CF H) us ls) (a2 : AllR (LaneO CL CF H) us' ls') : DTupB K (DInsB CL (SL CL CF)) (.ref p) (.ref p') (decide (ls = ls')) H := by
  refine ⟨p, p', us, us', rfl, rfl, SqT.of h1, SqT.of h2, ⟨fun i => decide (ls[i]? = ls'[i]?), fun i x y ex ey => ?_, ?_⟩, fun e => ?_⟩
  · obtain ⟨l, el, hl⟩ := a1.get ex
    obtain ⟨l', el', hl'⟩ := a2.get ey
    obtain ⟨z, dz, gs, rfl, hz⟩ := hl.ins
    obtain ⟨z', dz', gs', rfl, hz'⟩ := hl'.ins
    refine ⟨z, z', dz, dz', gs, gs', rfl, rfl, hz, hz', ⟨l, l', hl, hl', ?_⟩, fun e => ?_⟩
    · simp only [el, el', Option.some.injEq]
    · subst e
      have e := hl.inj hl'
      simp only [el, el', e, decide_true]
  · rw [decide_eq_true_eq, a1.length, a2.length]
    constructor
    · intro e
      subst e
      exact ⟨rfl, fun i _ _ => by simp only [decide_true]⟩
    · rintro ⟨e, all⟩
      refine List.ext_getElem? fun i => ?_
      rcases Nat.lt_or_ge i ls.length with c | c
      · exact of_decide_eq_true (all i c (by omega))
      · rw [List.getElem?_eq_none c, List.getElem?_eq_none (by omega)]
  · subst e
    rw [h1] at h2
    have e := Option.some.inj h2
    injection e with e
    subst e
    exact decide_eq_true (AllR.fn (fun _ _ _ x y => x.inj y) a1 a2)
def BlockO (CB CL CF : Addr) (H : Hp) (v : V) (d : BD) : Prop := ∃ x dx y tp us, v = .ref x ∧ H x = some (.ins CB dx (fldB y tp)) ∧ FormO CF H y d.t d.q d.c ∧ H tp = some (.tup us) ∧ AllR (LaneO CL CF H) us d.ls ∧ BI d
theorem BlockO.fz {CB CL CF : Addr} {H H' : Hp} {v : V} {d : BD} (h : BlockO CB CL CF H v d) (k : Fz H H') : BlockO CB CL CF H' v d := by
  obtain ⟨x, dx, y, tp, us, e, hx, hy, ht, a, i⟩ := h
  exact ⟨x, dx, y, tp, us, e, k _ _ trivial hx, hy.fz k, k _ _ trivial ht, a.mono fun v l h => h.fz k, i⟩
theorem BlockO.same {CB CL CF : Addr} {H H' : Hp} {v : V} {d : BD} (h : BlockO CB CL CF H v d) (k : Same H H') : BlockO CB CL CF H' v d := h.fz (Fz.of_same k)
def spBEq (K : PySem.W.Frag) (CB CL CF : Addr) : Sp := fun vs H Q _ => ∃ (u v : V) (d : BD), vs = [u, v] ∧ BlockO CB CL CF H u d ∧
  ((∃ d', BlockO CB CL CF H v d' ∧ ∀ H', Same H H' → Q (.bl (decide (d = d'))) H') ∨ ∃ t, TyX K H v t ∧ PySem.W.kitOne K t (.ref CB) = some false ∧ Q (.bl false) H)
theorem ok_beq (T : Txt K mg) : FnOk P w K mg base CX0 5 T.a_Block___eq__ T.d_Block___eq__ ["self", "other"] (spBEq K T.c_Block T.c_Lane T.c_Form) := by
  have R_feq : FnR P w K mg base CX0 1 T.a_Form___eq__ (spFEq K T.c_Form) := fnR (ok_feq T) T.b_Form___eq__
  have R_leq : FnR P w K mg base CX0 3 T.a_Lane___eq__ (spLEq K T.c_Lane T.c_Form) := fnR (ok_leq T) T.b_Lane___eq__
  refine T.F_Block___eq__.ok sc_Block___eq__ (fun vs H Q E h => ?_) (fun cdv A outer s H vs Q E hr h => ?_)
  · obtain ⟨u, v, l, rfl, _⟩ := h
    rfl
  · obtain ⟨u, v, d, rfl, ⟨x, dx, y, tp, us, rfl, hx, hy, ht, ha, di⟩, hv⟩ := h
    have nd := sc_Block___eq__.nd
    refine ⟨_, (pss_one (ps_ret (pe_and (pe_callB call_isi (by rfl) T.z_isinstance (by decide +kernel) (pa_cons (pv 1) (pa_cons (pe_glob rfl T.m_Block (rel_ref _)) pa_nil))) (pe_and (pe_cmpR (op_eqO T.O_Form R_feq (hr.mono (by decide)) pass0) (pe_fld (pv 0) rfl) (pe_fld (pv 1) rfl) (nomark _)) (pe_one (pe_cmpR (op_eqB (rcB_tup (monB_ins SL.mon) (RcB.eqB (rcB_ins T.O_Lane R_leq pass0 SL.ask) refs)) (hr.mono (by decide))) (pe_fld (pv 0) rfl) (pe_fld (pv 1) rfl) (nomark _))))))), ?_⟩
    rcases hv with ⟨d', ⟨x', dx', y', tp', us', rfl, hx', hy', ht', ha', di'⟩, k⟩ | ⟨t, ty, kt, k⟩
    · refine ⟨_, rfl, _, _, _, _, _, rfl, .own _, T.I_Block.ty T.C_Block hx', kit_self, _, rfl, ifT rfl ?_⟩
      have no : d ≠ d' → Q (.bl false) H := fun n => by
        have k := k H (Same.refl _)
        rw [decide_eq_false n] at k
        exact k
      obtain ⟨dz, hz⟩ := id hy
      obtain ⟨dz', hz'⟩ := id hy'
      refine ⟨_, rfl, x, _, dx, _, _, rfl, hx, T.C_Block, T.n_Block_rounds, rfl, _, rfl, x', _, dx', _, _, rfl, hx', T.C_Block, T.n_Block_rounds, rfl, y, dz, _, _, rfl, hz, T.I_Form.ty T.C_Form hz', notFirst_self, y, _, _, _, _, rfl, hy, .inl ⟨y', _, _, _, rfl, hy', _, rfl, ifD (fun e2 => ?_) (fun e2 => no fun z => e2 (by rw [z]; exact ⟨rfl, rfl, rfl⟩))⟩⟩
      refine ⟨_, rfl, x, _, dx, _, _, rfl, hx, T.C_Block, T.n_Block_lanes, rfl, _, rfl, x', _, dx', _, _, rfl, hx', T.C_Block, T.n_Block_lanes, rfl, decide (d.ls = d'.ls), SL.tup ht ht' ha ha', fun H' e => ?_⟩
      have e3 : decide (d.ls = d'.ls) = decide (d = d') := by
        refine decide_eq_decide.mpr ⟨fun e3 => ?_, fun z => by rw [z]⟩
        obtain ⟨a, b, c⟩ := e2
        cases d
        cases d'
        simp only at e3 a b c
        subst e3 a b c
        rfl
      rw [e3]
      exact k H' e
    · exact ⟨_, rfl, _, _, _, _, _, rfl, .own _, ty, kt, _, rfl, ifF rfl k⟩
/-! texts -/
def nl : Str := "\n"
def roundsText (d : BD) : Str := Str.ofString "rounds " ++ formText d.t d.q d.c
def blockLines (d : BD) : List Str := roundsText d :: d.ls.map laneText
def blockText (d : BD) : Str := Txt.join nl (blockLines d)
theorem sum_le {m : Nat} : ∀ {xs : List Str}, (∀ x ∈ xs, x.length ≤ m) → (xs.map fun x => x.length).sum ≤ xs.length * m
  | [], _ => Nat.zero_le _
  | x :: xs, h => by
    have a := h x (List.mem_cons_self ..)
    have b := sum_le (xs := xs) fun y hy => h y (List.mem_cons_of_mem _ hy)
    rw [List.map_cons, List.sum_cons, List.length_cons, Nat.succ_mul]
    omega
theorem line_len {d : BD} (i : BI d) {x : Str} (h : x ∈ blockLines d) : x.length ≤ 100 := by
  rcases List.mem_cons.mp h with h | h
  · subst h
    have a := form_len i.r.r
    have b : (Str.ofString "rounds ").length = 7 := by decide
    unfold roundsText
    rw [Str.length_append]
    omega
  · obtain ⟨l, hl, rfl⟩ := List.mem_map.mp h
    exact lane_len (i.li l hl)
theorem lines_len {d : BD} (i : BI d) : (blockLines d).length ≤ 61 := by
  have := i.l1
  unfold blockLines
  rw [List.length_cons, List.length_map]
  omega
theorem lines_small {d : BD} (i : BI d) : ((blockLines d).map fun x => x.length).sum + (blockLines d).length * nl.length ≤ 16777216 := by
  have a := sum_le (fun x h => line_len i h)
  have b := lines_len i
  have c : nl.length = 1 := by decide
  rw [c]
  omega
def spBStr (CB CL CF : Addr) : Sp := fun vs H Q _ => ∃ (u : V) (d : BD), vs = [u] ∧ BlockO CB CL CF H u d ∧ ∀ H', Same H H' → Q (.str (blockText d)) H'
theorem ok_bstr (T : Txt K mg) : FnOk P w K mg base CX0 8 T.a_Block___str__ T.d_Block___str__ ["self"] (spBStr T.c_Block T.c_Lane T.c_Form) := by
  have R_fmt : FnR P w K mg base CX0 3 T.a_Form___str__ (spFStr T.c_Form) := fnR (ok_fstr T) T.b_Form___str__
  have R_lstr : FnR P w K mg base CX0 5 T.a_Lane___str__ (spLStr T.c_Lane T.c_Form) := fnR (ok_lstr T) T.b_Lane___str__
  refine T.F_Block___str__.ok sc_Block___str__ (fun vs H Q E h => ?_) (fun cdv A outer s H vs Q E hr h => ?_)
  · obtain ⟨u, l, rfl, _⟩ := h
    rfl
  · obtain ⟨u, d, rfl, ⟨x, dx, y, tp, us, rfl, hx, hy, ht, ha, di⟩, k⟩ := h
    have nd := sc_Block___str__.nd
    refine ⟨_, (pss_one (ps_ret (pe_join pe_str (pe_lst (pa_cons (pe_joined (.cons pe_str (.cons (pe_fmtO (pe_fld (pv 0) rfl) T.F_Form T.M_Form___str__ R_fmt (hr.mono (by decide)) pass0) .nil))) (StX.pa_star (pe_lc (own := [("lane", 1)]) (g := (gName 1)) (by rfl) nd (pi_tup (pe_fld (pv 0) rfl)) (blkOk_by (N := ["self", "lane"]) (sc := defScope s_Block___str__) (own := [("lane", 1)]) (by decide +kernel)) (fun _ _ _ _ _ => by exact (pg_name (i := 1) nd rfl (Or.inl rfl))) (fun _ _ _ _ _ => by exact pts_nil) (fun _ _ _ _ _ => by exact (pe_callTy (call_strO T.M_Lane___str__ R_lstr (hr.mono (by decide)) pass0) (by rfl) T.z_str (by decide +kernel) (pa_cons (pv 1) pa_nil)))) pa_nil)))))), ?_⟩
    have e9 := sizeLine_eq
    have w0 : Str.empty.length = 0 := rfl
    have w1 : (Str.ofString "rounds ").length = 7 := by decide
    have r := di.r.r
    have fl := form_len r
    have t1 := r.t1
    have q1 := r.q1
    have c1 := r.c1
    have c2 := r.c2
    obtain ⟨dz, hz⟩ := id hy
    refine ret_go ?_
    refine ⟨⟨_, rfl⟩, ?_⟩
    refine ⟨_, rfl, by simp only [Str.length_append]; omega, ?_⟩
    refine ⟨_, rfl, x, _, dx, _, _, rfl, hx, T.C_Block, T.n_Block_rounds, rfl, y, dz, _, rfl, hz, y, _, _, _, rfl, hy, by unfold Mid; omega, by unfold Mid; omega, c1, by unfold Mid; omega, _, rfl, _, rfl, by simp only [Str.length_append]; omega, ?_⟩
    refine ⟨_, rfl, x, _, dx, _, _, rfl, hx, T.C_Block, T.n_Block_lanes, rfl, tp, rfl, ⟨us, SqT.of ht⟩, fun D hD => ?_⟩
    have lu := ha.length
    have l1 := di.l1
    refine lc_tup (xs := us) (fun i Hc => Hc D = some (.lst (((d.ls.map laneText).take i).map V.str)) ∧ Same H Hc) ⟨by rw [upd_same, List.take_zero]; rfl, same_new hD⟩ (fun i Hc _ hP => SqT.of (hP.2 _ _ ht)) (fun i y Hc hy hP => ?_) (fun Hc hP => ?_)
    · obtain ⟨hDc, sc⟩ := hP
      obtain ⟨l, el, hl⟩ := ha.get hy
      obtain ⟨z, dz2, gs, rfl, hz2⟩ := hl.ins
      have hn := (List.getElem?_eq_some_iff.mp hy).1
      refine ⟨rfl, _, rfl, z, dz2, gs, rfl, sc _ _ hz2, _, l, rfl, hl.same sc, _, rfl, ?_⟩
      have eg : (d.ls.map laneText)[i]? = some (laneText l) := by
        rw [List.getElem?_map, el]
        rfl
      exact ⟨_, hDc, szl (by rw [List.length_map, List.length_take, List.length_map]; omega), by rw [upd_same, take_snoc eg, List.map_append]; rfl, same_lst sc hD⟩
    · obtain ⟨hDc, sc⟩ := hP
      rw [lu, show d.ls.length = (d.ls.map laneText).length by rw [List.length_map], List.take_length] at hDc
      refine ⟨D, _, rfl, .inr (SqL.of hDc), ?_⟩
      have eX : (Str.empty ++ Str.ofString "rounds " ++ formText d.t d.q d.c) = roundsText d := by
        unfold roundsText
        rw [Str.empty_append]
      have eL : V.str (Str.empty ++ Str.ofString "rounds " ++ formText d.t d.q d.c) :: (List.map V.str (List.map laneText d.ls) ++ []) = (blockLines d).map V.str := by
        rw [List.append_nil, eX]
        rfl
      refine ⟨by simp only [List.length_cons, List.length_append, List.length_map, List.length_nil]; omega, fun p np => ⟨nl, p, blockLines d, rfl, rfl, .inl (by rw [← eL]; exact SqL.of upd_same), lines_small di, k _ (sc.trans (same_new np))⟩⟩

end
end K17
namespace K17
open PySem PySem.Spec PyProof.Rows L2 Rs
local macro_rules | `(tactic| walk_at "om") => `(tactic| first | omega | (dsimp only; omega))
local macro_rules | `(tactic| walk_at "side") => `(tactic| first | omega | (dsimp only; omega) | decide | (unfold CMul; omega) | (unfold CDiv; omega) | (unfold CPow; omega) | exact wide_div (b := 64) (by omega) (by omega) (by decide) (by decide))
local macro_rules | `(tactic| walk_at "hp") => `(tactic| first | assumption | exact upd_same)
local macro_rules | `(tactic| walk_at "sq") => `(tactic| first | assumption | exact SqL.of (by assumption) | exact SqL.of upd_same)
local macro_rules | `(tactic| walk_at "st") => `(tactic| first
  | refine ⟨_, rfl, ?_⟩
  | (refine ⟨_, _, rfl, rfl, And.intro ?side ?_⟩; (case side => walk_at "side"))
  | refine ⟨_, _, rfl, rfl, ?_⟩
  | (refine' ⟨_, _, _, _, rfl, rfl, SqL.of ?hp, ?atx, ?_⟩; (case hp => walk_at "hp"); (case atx => exact rfl))
  | (refine' ⟨_, _, _, _, rfl, rfl, ?hp, ?atx, ?_⟩; (case hp => walk_at "hp"); (case atx => exact rfl))
  | (refine' ⟨_, _, rfl, Or.inl ?sq, ?_⟩; (case sq => walk_at "sq"))
  | refine Or.inl ⟨_, rfl, ?_⟩
  | refine Or.inr ⟨_, rfl, ?_⟩)
local macro_rules | `(tactic| walk_at "evd") => `(tactic| first
  | exact evd_int
  | exact evd_str
  | exact evd_non
  | exact evd_bl
  | exact evd_nil
  | (refine evd_cons ?_ (fun _ => ?_) <;> walk_at "evd")
  | (refine evd_tup ?_ (Nat.le_of_ble_eq_true rfl); walk_at "evd"))

section
variable {P : Program} {w : World} {K : PySem.W.Frag} {mg : Str → Option Value} {base : Heap}
/-! what signs the texts hold -/
theorem form_signs {t q c : Int} : ∀ x ∈ TL.tl (formText t q c), x ≠ 10 ∧ x ≠ 32 := by
  intro x h
  have up : ∀ x ∈ TL.tl (upperS t q), x ≠ 10 ∧ x ≠ 32 := fun x h => by
    have := upper_signs x h
    omega
  unfold formText at h
  split at h
  · exact up x h
  · have e1 : TL.tl (Str.ofString "(") = [40] := by decide
    have e2 : TL.tl (Str.ofString ")/") = [41, 47] := by decide
    simp only [TL.tl_append, List.mem_append, e1, e2, List.mem_cons, List.not_mem_nil, or_false] at h
    rcases h with h | h
    · omega
    rcases h with h | h
    · exact up x h
    rcases h with h | h
    · omega
    · have := nS_signs x h
      omega
theorem word_signs {y : Str} (h : y ∈ ways ∨ y ∈ signs ∨ y ∈ deeds) : ∀ x ∈ TL.tl y, x ≠ 10 ∧ x ≠ 32 := by
  unfold ways signs deeds at h
  simp only [List.mem_cons, List.not_mem_nil, or_false] at h
  rcases h with (h | h) | (h | h) | (h | h) <;> (subst h; decide)
theorem lane_split {l : LD} (i : LI l) : Txt.split (laneText l) blank = [l.w, l.s, formText l.t l.q l.c, l.d] := by
  refine TL.split_join (s := 32) (S := []) (by decide) (by decide +kernel) (by simp) fun p h m => ?_
  simp only [List.mem_cons, List.not_mem_nil, or_false] at h
  rcases h with h | h | h | h <;> subst h
  · exact (word_signs (.inl i.w) _ m).2 rfl
  · exact (word_signs (.inr (.inl i.s)) _ m).2 rfl
  · exact (form_signs _ m).2 rfl
  · exact (word_signs (.inr (.inr i.d)) _ m).2 rfl
theorem nine {t : Int} (h : t.natAbs < 10 ^ 9) : Nine t := h
theorem FormR.inj {t q c t' q' c' : Int} (r : FormR t q c) (r' : FormR t' q' c') (e : formText t q c = formText t' q' c') : t = t' ∧ q = q' ∧ c = c' :=
  formText_inj r.t1 r.q1 (by have := r.c1; have := r.c2; unfold Nine; omega) r'.t1 r'.q1 (by have := r'.c1; have := r'.c2; unfold Nine; omega) e
theorem lane_inj {l l' : LD} (i : LI l) (i' : LI l') (e : laneText l = laneText l') : l = l' := by
  have e := congrArg (fun z => Txt.split z blank) e
  simp only [lane_split i, lane_split i', List.cons.injEq, and_true] at e
  obtain ⟨e1, e2, e3, e4⟩ := e
  obtain ⟨f1, f2, f3⟩ := i.r.inj i'.r e3
  cases l
  cases l'
  simp only at e1 e2 e4 f1 f2 f3
  subst e1 e2 e4 f1 f2 f3
  rfl
theorem lane_no_nl {l : LD} (i : LI l) : 10 ∉ TL.tl (laneText l) := by
  intro m
  rw [lane_eq] at m
  have e1 : TL.tl blank = [32] := by decide
  simp only [TL.tl_append, List.mem_append, e1, List.mem_cons, List.not_mem_nil, or_false] at m
  rcases m with h | h | h | h | h | h | h
  · exact (word_signs (.inl i.w) _ h).1 rfl
  · omega
  · exact (word_signs (.inr (.inl i.s)) _ h).1 rfl
  · omega
  · exact (form_signs _ h).1 rfl
  · omega
  · exact (word_signs (.inr (.inr i.d)) _ h).1 rfl
theorem line_no_nl {d : BD} (i : BI d) : ∀ p ∈ blockLines d, 10 ∉ TL.tl p := fun p h m => by
  rcases List.mem_cons.mp h with h | h
  · subst h
    unfold roundsText at m
    rw [TL.tl_append, List.mem_append] at m
    rcases m with m | m
    · exact absurd m (by decide)
    · exact (form_signs _ m).1 rfl
  · obtain ⟨l, hl, rfl⟩ := List.mem_map.mp h
    exact lane_no_nl (i.li l hl) m
theorem block_split {d : BD} (i : BI d) : Txt.split (blockText d) nl = blockLines d :=
  TL.split_join (s := 10) (S := []) (by decide) (by decide +kernel) (by unfold blockLines; simp) (line_no_nl i)
theorem rounds_inj {d d' : BD} (i : BI d) (i' : BI d') (e : roundsText d = roundsText d') : d.t = d'.t ∧ d.q = d'.q ∧ d.c = d'.c := by
  refine i.r.r.inj i'.r.r (tl_inj ?_)
  have e := congrArg TL.tl e
  unfold roundsText at e
  rw [TL.tl_append, TL.tl_append] at e
  exact List.append_cancel_left e
theorem lanes_inj : ∀ {ls ls' : List LD}, (∀ l ∈ ls, LI l) → (∀ l ∈ ls', LI l) → ls.map laneText = ls'.map laneText → ls = ls'
  | [], [], _, _, _ => rfl
  | [], _ :: _, _, _, e => by cases e
  | _ :: _, [], _, _, e => by cases e
  | l :: ls, l' :: ls', h, h', e => by
    rw [List.map_cons, List.map_cons] at e
    injection e with e1 e2
    rw [lane_inj (h l (List.mem_cons_self ..)) (h' l' (List.mem_cons_self ..)) e1, lanes_inj (fun z hz => h z (List.mem_cons_of_mem _ hz)) (fun z hz => h' z (List.mem_cons_of_mem _ hz)) e2]
theorem block_inj {d d' : BD} (i : BI d) (i' : BI d') (e : blockText d = blockText d') : d = d' := by
  have e := congrArg (fun z => Txt.split z nl) e
  simp only [block_split i, block_split i'] at e
  unfold blockLines at e
  injection e with e1 e2
  obtain ⟨a, b, c⟩ := rounds_inj i i' e1
  have f := lanes_inj i.li i'.li e2
  cases d
  cases d'
  simp only at a b c f
  subst a b c f
  rfl
/-- the law's text of a plan -/
def planText (ds : List BD) : Str := Txt.join nl (ds.flatMap blockLines)
theorem plan_one {d : BD} : planText [d] = blockText d := by
  unfold planText blockText
  rw [List.flatMap_cons, List.flatMap_nil, List.append_nil]
theorem di_all {b : Addr} {H : Hp} {bs : List V} {ds : List BD} (h : AllR (BlockV b H) bs ds) : ∀ d ∈ ds, BI d := by
  induction h with
  | nil => intro d h; cases h
  | cons z _ ih =>
    intro d h
    obtain ⟨_, _, _, _, _, _, _, _, _, _, i⟩ := z
    rcases List.mem_cons.mp h with h | h
    · subst h; exact i
    · exact ih d h
theorem flat_len {ds : List BD} (h : ∀ d ∈ ds, BI d) : (ds.flatMap blockLines).length ≤ ds.length * 61 := by
  induction ds with
  | nil => exact Nat.zero_le _
  | cons d ds ih =>
    have a := lines_len (h d (List.mem_cons_self ..))
    have b := ih fun z hz => h z (List.mem_cons_of_mem _ hz)
    rw [List.flatMap_cons, List.length_append, List.length_cons, Nat.succ_mul]
    omega
theorem flat_small {ds : List BD} (l : ds.length ≤ 10) (h : ∀ d ∈ ds, BI d) : ((ds.flatMap blockLines).map fun x => x.length).sum + (ds.flatMap blockLines).length * nl.length ≤ 16777216 := by
  have a := sum_le (m := 100) (xs := ds.flatMap blockLines) (fun x hx => by
    obtain ⟨d, hd, hx⟩ := List.mem_flatMap.mp hx
    exact line_len (h d hd) hx)
  have b := flat_len h
  have c : nl.length = 1 := by decide
  rw [c]
  omega
def spPlanText (K : PySem.W.Frag) : Sp := fun vs H Q _ => ∃ (a b : Addr) (bs : List V) (ds : List BD), vs = [.ref a] ∧ H a = some (.lst bs) ∧ AllR (BlockV b H) bs ds ∧ ds.length ≤ 10 ∧ ∀ H', Same H H' → Q (.str (planText ds)) H'

theorem same_make {H H' : Hp} {x dx : Addr} {o1 o2 o3 : HO} (nx : H x = none) (ndx : H dx = none) (s : Same (upd (upd H dx o1) x o2) H') : Same H (upd H' x o3) := fun a o e => by
  rw [upd_ne (ne_of_none e nx)]
  refine s a o ?_
  rw [upd_ne (ne_of_none e nx), upd_ne (ne_of_none e ndx)]
  exact e
theorem same_made {H : Hp} {x dx : Addr} {o1 o2 o3 : HO} (nx : H x = none) (ndx : H dx = none) : Same H (upd (upd (upd H dx o1) x o2) x o3) := same_make nx ndx (Same.refl _)
theorem same_two {H : Hp} {x dx : Addr} {o1 o2 : HO} (nx : H x = none) (ndx : H dx = none) : Same H (upd (upd H dx o1) x o2) := fun a o e => by
  rw [upd_ne (ne_of_none e nx), upd_ne (ne_of_none e ndx)]
  exact e
def InsOf (C : Addr) (H : Hp) (v : V) : Prop := ∃ x dx fs, v = .ref x ∧ H x = some (.ins C dx fs)
theorem ne_of_none' {H : Hp} {a l : Addr} {o : HO} (h : H a = some o) (n : H l = none) : l ≠ a := by
  rintro rfl
  rw [n] at h
  cases h
theorem szl' {n : Nat} (h : n ≤ 10000) : n < sizeLine := Nat.lt_of_le_of_lt h (by decide)
/-- what a plan holds: its blocks, and what was found out -/
def planF (tp d : Addr) : List (Str × V) := putF "found" (.ref d) (putF "blocks" (.ref tp) [])
theorem upd_mid {H : Hp} {x d : Addr} {o1 o2 o3 : HO} (ne : d ≠ x) : upd (upd (upd H x o1) d o2) x o3 = upd (upd H d o2) x o3 := by
  funext a
  by_cases h : a = x
  · subst h
    rw [upd_same, upd_same]
  · rw [upd_ne h, upd_ne h]
    by_cases g : a = d
    · subst g
      rw [upd_same, upd_same]
    · rw [upd_ne g, upd_ne g, upd_ne h]

theorem op_eqOK {X : Cx} {K : PySem.W.Frag} {CX : CXT} {C g : Addr} {n : Nat} {sp : Sp} {E : XK} (e : X.K = K) (O : OwnQ K C g) (F : FnR X.prog X.w K X.mg X.base CX n g sp) (hr : Room n X.A) (hx : Passes CX X E) : OpR X (compareOp .Eq) (rEqO K C sp E) := by
  subst e
  exact op_eqO O F hr hx
theorem op_eqDK {X : Cx} {K : PySem.W.Frag} (e : X.K = K) (hu : X.A.units + 64 < cLine) : OpR X (compareOp .Eq) (rEqD K) := by
  subst e
  exact op_eqD hu
/-! lanes as data -/
def laneD (l : LD) : PyData := .tuple [.str l.w, .str l.s, .tuple [.int l.t, .int l.q, .int l.c], .str l.d]
theorem LaneV.dp {H : Hp} {v : V} {l : LD} (h : LaneV H v l) : Dp K H v (laneD l) := by
  obtain ⟨p, f, rfl, hp, hf, _⟩ := h
  exact .tup (SqT.of hp) (.cons (.str _) (.cons (.str _) (.cons (.tup (SqT.of hf) (.cons (.int _) (.cons (.int _) (.cons (.int _) .nil)))) (.cons (.str _) .nil))))
theorem laneD_ok {l : LD} (i : LI l) : okD 2 (laneD l) := okD.tuple fun d hd => by
  simp only [List.mem_cons, List.not_mem_nil, or_false] at hd
  rcases hd with rfl | rfl | rfl | rfl
  · exact ⟨word_ok (.inl i.w), Nat.zero_le _⟩
  · exact ⟨word_ok (.inr (.inl i.s)), Nat.zero_le _⟩
  · exact okD.tuple fun d hd => by
      simp only [List.mem_cons, List.not_mem_nil, or_false] at hd
      rcases hd with rfl | rfl | rfl <;> exact ⟨rfl, Nat.zero_le _⟩
  · exact ⟨word_ok (.inr (.inr i.d)), Nat.zero_le _⟩
theorem int_eqv {a b : Int} : PyData.eqv (.int a) (.int b) = decide (a = b) := by
  show (a == b) = _
  rw [Bool.eq_iff_iff]
  simp
theorem laneD_eqv {l l' : LD} : PyData.eqv (laneD l) (laneD l') = decide (l = l') := by
  show (PyData.eqv (.str l.w) (.str l'.w) && (PyData.eqv (.str l.s) (.str l'.s) && ((PyData.eqv (.int l.t) (.int l'.t) && (PyData.eqv (.int l.q) (.int l'.q) && (PyData.eqv (.int l.c) (.int l'.c) && true))) && (PyData.eqv (.str l.d) (.str l'.d) && true)))) = _
  rw [str_eqv, str_eqv, str_eqv, int_eqv, int_eqv, int_eqv, Bool.eq_iff_iff]
  cases l
  cases l'
  simp only [Bool.and_eq_true, decide_eq_true_eq, LD.mk.injEq, and_true]
  constructor
  · rintro ⟨a, b, ⟨c, d, e⟩, f⟩
    exact ⟨a, b, c, d, e, f⟩
  · rintro ⟨a, b, c, d, e, f⟩
    exact ⟨a, b, ⟨c, d, e⟩, f⟩
theorem dp_bools {H : Hp} : ∀ {bs : List Bool}, DpAll K H (bs.map V.bl) (bs.map PyData.bool)
  | [] => .nil
  | b :: bs => .cons (.bl b) dp_bools
theorem ok_bools {bs : List Bool} : okD 1 (.list (bs.map PyData.bool)) := okD.list fun d hd => by
  obtain ⟨n, _, rfl⟩ := List.mem_map.mp hd
  exact ⟨rfl, Nat.zero_le _⟩
theorem dp_strs {H : Hp} : ∀ {bs : List Str}, DpAll K H (bs.map V.str) (bs.map PyData.str)
  | [] => .nil
  | b :: bs => .cons (.str b) dp_strs
theorem LaneV.li {H : Hp} {v : V} {l : LD} (h : LaneV H v l) : LI l := by
  obtain ⟨_, _, _, _, _, i⟩ := h
  exact i
theorem cut_tail {x : V} {xs : List V} : cutV (x :: xs) (some 1) none = xs := by
  unfold cutV
  rw [show (some (1 : Int)) = some ((1 : Nat) : Int) from rfl, HT.sIx_none, HT.sIx_nat, List.length_cons, Nat.min_eq_left (by omega), List.drop_succ_cons, List.drop_zero, Nat.add_sub_cancel, List.take_length]
theorem tl_length (x : Str) : (TL.tl x).length = x.length := by
  unfold TL.tl Str.length
  rw [Array.length_toList]
theorem joinL_le {S : List Nat} : ∀ {ps : List (List Nat)}, (TL.joinL S ps).length ≤ (ps.map fun x => x.length).sum + ps.length * S.length
  | [] => Nat.zero_le _
  | [p] => by
    show p.length ≤ _
    simp only [List.map_cons, List.map_nil, List.sum_cons, List.sum_nil]
    omega
  | p :: q :: r => by
    have ih := joinL_le (S := S) (ps := q :: r)
    show (p ++ (S ++ TL.joinL S (q :: r))).length ≤ _
    rw [List.length_append, List.length_append, List.map_cons, List.sum_cons, List.length_cons (as := q :: r), Nat.succ_mul]
    omega
theorem join_len {y : Str} {xs : List Str} : (Txt.join y xs).length ≤ (xs.map fun x => x.length).sum + xs.length * y.length := by
  have h := joinL_le (S := TL.tl y) (ps := xs.map TL.tl)
  rw [← TL.tl_join, ← TL.join_eq, tl_length, tl_length, List.length_map, List.map_map] at h
  refine Nat.le_trans h (Nat.le_of_eq ?_)
  congr 2
theorem ifs_go {c : TT} {t u : TS} {D : Ends} {σ : L2.St} {H : Hp} (h : c σ H fun b H1 => if b = true then t D σ H1 else u D σ H1) : tIfS c t u D σ H := h
theorem ok_of (t : String) : PyData.strOk (Str.ofString t) = true := by
  rw [Str.ofString_eq_toList]
  unfold PyData.strOk
  rw [Array.all_eq_true']
  intro x hx
  rw [List.mem_toArray, List.mem_map] at hx
  obtain ⟨c, _, rfl⟩ := hx
  refine decide_eq_true ?_
  have := c.valid
  rcases this with h | h
  · show c.val.toNat < 1114112
    have : c.val.toNat < 55296 := h
    omega
  · exact h.2
theorem ok_app {a b : Str} (ha : PyData.strOk a = true) (hb : PyData.strOk b = true) : PyData.strOk (a ++ b) = true := by
  unfold PyData.strOk at ha hb ⊢
  rw [Str.cps_append, Array.all_append, ha, hb]
  rfl
theorem ok_joinS {sep : Str} (hs : PyData.strOk sep = true) : ∀ {xs : List Str}, (∀ x ∈ xs, PyData.strOk x = true) → PyData.strOk (Str.join sep xs) = true
  | [], _ => by
    show (#[] : Array Nat).all (· < 0x110000) = true
    simp
  | [x], h => h x List.mem_cons_self
  | x :: y :: r, h => ok_app (ok_app (h x List.mem_cons_self) hs) (ok_joinS (xs := y :: r) hs fun z hz => h z (List.mem_cons_of_mem _ hz))
theorem ok_join {sep : Str} (hs : PyData.strOk sep = true) {xs : List Str} (h : ∀ x ∈ xs, PyData.strOk x = true) : PyData.strOk (Txt.join sep xs) = true := by
  have e : Txt.join sep xs = Str.join sep xs := StrLaws.glued_eq_join sep xs
  rw [e]
  exact ok_joinS hs h
theorem form_small {t q c : Int} : PyData.strOk (formText t q c) = true := by
  unfold PyData.strOk
  rw [Array.all_eq_true']
  intro x h
  have h : x ∈ TL.tl (formText t q c) := Array.mem_toList_iff.mpr h
  have up : ∀ x ∈ TL.tl (upperS t q), x < 1114112 := fun x h => by
    have := upper_signs x h
    omega
  refine decide_eq_true ?_
  unfold formText at h
  split at h
  · exact up x h
  · have e1 : TL.tl (Str.ofString "(") = [40] := by decide
    have e2 : TL.tl (Str.ofString ")/") = [41, 47] := by decide
    simp only [TL.tl_append, List.mem_append, e1, e2, List.mem_cons, List.not_mem_nil, or_false] at h
    rcases h with h | h
    · omega
    rcases h with h | h
    · exact up x h
    rcases h with h | h
    · omega
    · have := nS_signs x h
      omega
theorem lane_small {l : LD} (i : LI l) : PyData.strOk (laneText l) = true := ok_join (ok_of _) fun x hx => by
  simp only [List.mem_cons, List.not_mem_nil, or_false] at hx
  rcases hx with rfl | rfl | rfl | rfl
  · exact word_ok (.inl i.w)
  · exact word_ok (.inr (.inl i.s))
  · exact form_small
  · exact word_ok (.inr (.inr i.d))
theorem lanes_ok {ls : List LD} (h : ∀ l ∈ ls, LI l) : okD 1 (.list ((ls.map laneText).map PyData.str)) := okD.list fun d hd => by
  obtain ⟨x, hx, rfl⟩ := List.mem_map.mp hd
  obtain ⟨l, hl, rfl⟩ := List.mem_map.mp hx
  exact ⟨lane_small (h l hl), Nat.zero_le _⟩
theorem make_block {CB CF CL : Addr} {H : Hp} {x dx xr dr a : Addr} {t q c : Int} {us : List V} {ls : List LD} {Q : VK} (hxr : H xr = some (.ins CF dr (fldF t q c))) (ha : H a = some (.lst us) ∨ H a = some (.tup us)) (hus : AllR (LaneO CL CF H) us ls) (di : BI ⟨t, q, c, ls⟩) (nx : H x = none) (nd : H dx = none)
    (k : ∀ H', Same H H' → BlockO CB CL CF H' (.ref x) ⟨t, q, c, ls⟩ → Q .non H') : spBlockG K CB CF CL [.ref x, .ref xr, .ref a] (upd (upd H dx (.own x)) x (.ins CB dx [])) Q E0 := by
  have sb := same_two (o1 := .own x) (o2 := .ins CB dx []) nx nd
  have hgb := hus.mono fun v l h => h.same sb
  have e := hus.length
  have l0 := di.l0
  have l1 := di.l1
  dsimp only at l0 l1
  refine ⟨x, dx, xr, a, us, rfl, upd_same, ⟨dr, _, sb _ _ hxr⟩, ha.imp (sb _ _) (sb _ _), by omega, by omega, fun y hy => ?_, fun H10 tp s10 htp => ?_⟩
  · obtain ⟨l, _, hl⟩ := hgb.left hy
    exact hl.ins
  have s3 : Same H (upd H10 x (.ins CB dx (fldB xr tp))) := same_make nx nd s10
  have hx7 : H10 x = some (.ins CB dx []) := s10 _ _ upd_same
  have ntx : tp ≠ x := by
    rintro rfl
    rw [hx7] at htp
    cases htp
  have htp3 : upd H10 x (.ins CB dx (fldB xr tp)) tp = some (.tup us) := by
    rw [upd_ne ntx]
    exact htp
  exact k _ s3 ⟨x, dx, xr, tp, us, rfl, upd_same, ⟨dr, s3 _ _ hxr⟩, htp3, hus.mono fun v l h => h.same s3, di⟩
theorem BlockV.bi {b : Addr} {H : Hp} {v : V} {d : BD} (h : BlockV b H v d) : BI d := by
  obtain ⟨_, _, _, _, _, _, _, _, _, _, i⟩ := h
  exact i

end
end K17
namespace K17
open PySem PySem.Spec PyProof.Rows L2 Rs
local macro_rules | `(tactic| walk_at "om") => `(tactic| first | omega | (dsimp only; omega))
local macro_rules | `(tactic| walk_at "side") => `(tactic| first | omega | (dsimp only; omega) | decide | (unfold CMul; omega) | (unfold CDiv; omega) | (unfold CPow; omega) | exact wide_div (b := 64) (by omega) (by omega) (by decide) (by decide))
local macro_rules | `(tactic| walk_at "hp") => `(tactic| first | assumption | exact upd_same)
local macro_rules | `(tactic| walk_at "sq") => `(tactic| first | assumption | exact SqL.of (by assumption) | exact SqL.of upd_same)
local macro_rules | `(tactic| walk_at "st") => `(tactic| first
  | refine ⟨_, rfl, ?_⟩
  | (refine ⟨_, _, rfl, rfl, And.intro ?side ?_⟩; (case side => walk_at "side"))
  | refine ⟨_, _, rfl, rfl, ?_⟩
  | (refine' ⟨_, _, _, _, rfl, rfl, SqL.of ?hp, ?atx, ?_⟩; (case hp => walk_at "hp"); (case atx => exact rfl))
  | (refine' ⟨_, _, _, _, rfl, rfl, ?hp, ?atx, ?_⟩; (case hp => walk_at "hp"); (case atx => exact rfl))
  | (refine' ⟨_, _, rfl, Or.inl ?sq, ?_⟩; (case sq => walk_at "sq"))
  | refine Or.inl ⟨_, rfl, ?_⟩
  | refine Or.inr ⟨_, rfl, ?_⟩)
local macro_rules | `(tactic| walk_at "evd") => `(tactic| first
  | exact evd_int
  | exact evd_str
  | exact evd_non
  | exact evd_bl
  | exact evd_nil
  | (refine evd_cons ?_ (fun _ => ?_) <;> walk_at "evd")
  | (refine evd_tup ?_ (Nat.le_of_ble_eq_true rfl); walk_at "evd"))

section
variable {P : Program} {w : World} {K : PySem.W.Frag} {mg : Str → Option Value} {base : Heap}
theorem Same.seqT {H H' : Hp} {a : Addr} {xs : List V} (s : Same H H') (h : SqT K H a xs) : SqT K H' a xs := (Fz.of_same s).sqT h
/-- a list or a tuple of blocks: made; its tuple is new, or the one that was handed -/
def spPlanS (K : PySem.W.Frag) (CP CB : Addr) : Sp := fun vs H Q _ => ∃ (x dx a : Addr) (xs : List V), vs = [.ref x, .ref a] ∧ H x = some (.ins CP dx []) ∧ xs.length ≤ 1000 ∧ (∀ y ∈ xs, InsOf CB H y) ∧
  ((H a = some (.lst xs) ∧ ∀ H' tp d, Same H H' → H' tp = some (.tup xs) → Q .non (upd H' x (.ins CP dx (planF tp d)))) ∨ (SqT K H a xs ∧ ∀ H' d, Same H H' → Q .non (upd H' x (.ins CP dx (planF a d)))))
theorem ok_planS (T : Txt K mg) : FnOk P w K mg base CX0 2 T.a_Plan___init__ T.d_Plan___init__ ["self", "blocks"] (spPlanS K T.c_Plan T.c_Block) := by
  have G_is_sequence : FnOk P w K mg base CX0 1 T.a_is_sequence T.d_is_sequence ["value"] (spSeq K) := ok_seq T
  refine T.F_Plan___init__.ok sc_Plan___init__ (fun vs H Q E h => ?_) (fun cdv A outer s H vs Q E hr h => ?_)
  · obtain ⟨x, dx, a, xs, rfl, _⟩ := h
    rfl
  · obtain ⟨x, dx, a, xs, rfl, hx, xl, hxs, hseq⟩ := h
    have nd := sc_Plan___init__.nd
    refine ⟨_, (pss_cons (ps_if (PW.pt (pw_or (pt_not (pt_val (pe_call G_is_sequence (hr.mono (by first | decide | omega)) (by rfl) T.m_is_sequence T.k_is_sequence T.b_is_sequence .nil pass0 (pa_cons (pv 1) pa_nil)))) (pw_or1 (pt_not (pt_val (pe_callB (cr_all rfl) (by rfl) T.z_all (by decide +kernel) (pa_cons (pe_lc (own := [("block", 2)]) (g := (gName 2)) (by rfl) nd (pi_seqA (pv 1)) (blkOk_by (N := ["self", "blocks", "block"]) (sc := defScope s_Plan___init__) (own := [("block", 2)]) (by decide +kernel)) (fun _ _ _ _ _ => by exact (pg_name (i := 2) nd rfl (Or.inl rfl))) (fun _ _ _ _ _ => by exact pts_nil) (fun _ _ _ _ _ => by exact (pe_callB (call_isiC (K := K) rfl) (by rfl) T.z_isinstance (by decide +kernel) (pa_cons (pv 2) (pa_cons (pe_glob rfl T.m_Block (rel_ref _)) pa_nil))))) pa_nil))))))) (pss_one ps_never) pss_nil)
    (pss_cons (ps_fld (pv 0) (pe_callTy call_tuple_of (by rfl) T.z_tuple (by decide +kernel) (pa_cons (pv 1) pa_nil)) rfl)
    (pss_one (ps_fld (pv 0) pe_dnewK rfl)))), ?_⟩
    rcases hseq with ⟨ha, good⟩ | ⟨ha, good⟩
    · refine ⟨_, rfl, _, _, _, rfl, .base (.lst ha), kit_seq_list, fun H1 s1 => ⟨_, rfl, ifF rfl ?_⟩⟩
      have ha1 : SqL K H1 a xs := SqL.of (s1 _ _ ha)
      refine ⟨_, rfl, a, rfl, .inl ⟨xs, ha1, fun D hD => ?_⟩⟩
      refine lc_list (xs := xs) (fun i Hc => Hc D = some (.lst ((List.replicate i true).map V.bl)) ∧ Same H1 Hc) ⟨upd_same, same_new hD⟩ (fun i Hc _ hP => hP.2.seq ha1) (fun i y Hc hy hP => ?_) (fun Hc hP => ?_)
      · obtain ⟨hDc, sc⟩ := hP
        obtain ⟨z, dz, gs, rfl, hz⟩ := hxs y (List.mem_of_getElem? hy)
        have hn := (List.getElem?_eq_some_iff.mp hy).1
        refine ⟨rfl, _, rfl, _, _, _, _, _, rfl, .own _, T.I_Block.ty T.C_Block (sc _ _ (s1 _ _ hz)), kit_self, ?_⟩
        exact ⟨_, hDc, szl' (by rw [List.length_map, List.length_replicate]; omega), by rw [upd_same, List.replicate_succ', List.map_append]; rfl, same_lst sc hD⟩
      · obtain ⟨hDc, sc⟩ := hP
        have sH := s1.trans sc
        refine ⟨D, List.replicate xs.length true, rfl, SqL.of hDc, _, rfl, ifF (by simp) ?_⟩
        refine ⟨_, rfl, a, _, rfl, .inl ⟨sc.seq ha1, fun tp ntp => ?_⟩⟩
        have ntx : tp ≠ x := ne_of_none' (sH _ _ hx) ntp
        refine ⟨_, rfl, x, T.c_Plan, dx, _, rfl, by rw [upd_ne (Ne.symm ntx)]; exact sH _ _ hx, T.C_Plan, T.n_Plan_blocks, by decide, ?_⟩
        refine fun d nd9 => ?_
        have nex : d ≠ x := fun e => by
          rw [e, upd_same] at nd9
          cases nd9
        rw [upd_ne nex] at nd9
        refine ⟨_, rfl, x, T.c_Plan, dx, _, rfl, by rw [upd_ne (Ne.symm nex)]; exact upd_same, T.C_Plan, T.n_Plan_found, by show 1 < 1000; decide, ?_⟩
        rw [upd_mid nex]
        exact good _ tp d ((sH.trans (same_new ntp)).trans (same_new nd9)) (same_new nd9 _ _ upd_same)
    · refine ⟨_, rfl, _, _, _, rfl, sqT_ty ha, kit_seq_tup, fun H1 s1 => ⟨_, rfl, ifF rfl ?_⟩⟩
      have ha1 : SqT K H1 a xs := Same.seqT s1 ha
      refine ⟨_, rfl, a, rfl, .inr ⟨xs, ha1, fun D hD => ?_⟩⟩
      refine lc_tup (xs := xs) (fun i Hc => Hc D = some (.lst ((List.replicate i true).map V.bl)) ∧ Same H1 Hc) ⟨upd_same, same_new hD⟩ (fun i Hc _ hP => Same.seqT hP.2 ha1) (fun i y Hc hy hP => ?_) (fun Hc hP => ?_)
      · obtain ⟨hDc, sc⟩ := hP
        obtain ⟨z, dz, gs, rfl, hz⟩ := hxs y (List.mem_of_getElem? hy)
        have hn := (List.getElem?_eq_some_iff.mp hy).1
        refine ⟨rfl, _, rfl, _, _, _, _, _, rfl, .own _, T.I_Block.ty T.C_Block (sc _ _ (s1 _ _ hz)), kit_self, ?_⟩
        exact ⟨_, hDc, szl' (by rw [List.length_map, List.length_replicate]; omega), by rw [upd_same, List.replicate_succ', List.map_append]; rfl, same_lst sc hD⟩
      · obtain ⟨hDc, sc⟩ := hP
        have sH := s1.trans sc
        refine ⟨D, List.replicate xs.length true, rfl, SqL.of hDc, _, rfl, ifF (by simp) ?_⟩
        refine ⟨_, rfl, a, _, rfl, .inr ⟨Same.seqT sc ha1, ?_⟩⟩
        refine ⟨_, rfl, x, T.c_Plan, dx, _, rfl, sH _ _ hx, T.C_Plan, T.n_Plan_blocks, by decide, ?_⟩
        refine fun d nd9 => ?_
        have nex : d ≠ x := fun e => by
          rw [e, upd_same] at nd9
          cases nd9
        rw [upd_ne nex] at nd9
        refine ⟨_, rfl, x, T.c_Plan, dx, _, rfl, by rw [upd_ne (Ne.symm nex)]; exact upd_same, T.C_Plan, T.n_Plan_found, by show 1 < 1000; decide, ?_⟩
        rw [upd_mid nex]
        exact good _ d (sH.trans (same_new nd9))

def PlanO (CP CB CL CF : Addr) (H : Hp) (v : V) (ds : List BD) : Prop := ∃ x dx tp bs d, v = .ref x ∧ H x = some (.ins CP dx (planF tp d)) ∧ H tp = some (.tup bs) ∧ AllR (BlockO CB CL CF H) bs ds
theorem PlanO.fz {CP CB CL CF : Addr} {H H' : Hp} {v : V} {ds : List BD} (h : PlanO CP CB CL CF H v ds) (k : Fz H H') : PlanO CP CB CL CF H' v ds := by
  obtain ⟨x, dx, tp, bs, d, e, hx, ht, a⟩ := h
  exact ⟨x, dx, tp, bs, d, e, k _ _ trivial hx, k _ _ trivial ht, a.mono fun v l h => h.fz k⟩
def spPlanOf (CP CB CL CF : Addr) : Sp := fun vs H Q _ => ∃ (a b : Addr) (bs : List V) (ds : List BD), vs = [.ref a] ∧ H a = some (.lst bs) ∧ AllR (BlockV b H) bs ds ∧ ds.length ≤ 100 ∧ ∀ u H', Same H H' → PlanO CP CB CL CF H' u ds → Q u H'
theorem BlockO.ins {CB CL CF : Addr} {H : Hp} {v : V} {d : BD} (h : BlockO CB CL CF H v d) : InsOf CB H v := by
  obtain ⟨x, dx, y, tp, us, e, hx, _⟩ := h
  exact ⟨x, dx, _, e, hx⟩

end
end K17
namespace K17
open PySem PySem.Spec PyProof.Rows L2 Rs
local macro_rules | `(tactic| walk_at "om") => `(tactic| first | omega | (dsimp only; omega))
local macro_rules | `(tactic| walk_at "side") => `(tactic| first | omega | (dsimp only; omega) | decide | (unfold CMul; omega) | (unfold CDiv; omega) | (unfold CPow; omega) | exact wide_div (b := 64) (by omega) (by omega) (by decide) (by decide))
local macro_rules | `(tactic| walk_at "hp") => `(tactic| first | assumption | exact upd_same)
local macro_rules | `(tactic| walk_at "sq") => `(tactic| first | assumption | exact SqL.of (by assumption) | exact SqL.of upd_same)
local macro_rules | `(tactic| walk_at "st") => `(tactic| first
  | refine ⟨_, rfl, ?_⟩
  | (refine ⟨_, _, rfl, rfl, And.intro ?side ?_⟩; (case side => walk_at "side"))
  | refine ⟨_, _, rfl, rfl, ?_⟩
  | (refine' ⟨_, _, _, _, rfl, rfl, SqL.of ?hp, ?atx, ?_⟩; (case hp => walk_at "hp"); (case atx => exact rfl))
  | (refine' ⟨_, _, _, _, rfl, rfl, ?hp, ?atx, ?_⟩; (case hp => walk_at "hp"); (case atx => exact rfl))
  | (refine' ⟨_, _, rfl, Or.inl ?sq, ?_⟩; (case sq => walk_at "sq"))
  | refine Or.inl ⟨_, rfl, ?_⟩
  | refine Or.inr ⟨_, rfl, ?_⟩)
local macro_rules | `(tactic| walk_at "evd") => `(tactic| first
  | exact evd_int
  | exact evd_str
  | exact evd_non
  | exact evd_bl
  | exact evd_nil
  | (refine evd_cons ?_ (fun _ => ?_) <;> walk_at "evd")
  | (refine evd_tup ?_ (Nat.le_of_ble_eq_true rfl); walk_at "evd"))

section
variable {P : Program} {w : World} {K : PySem.W.Frag} {mg : Str → Option Value} {base : Heap}
/-! texts read back -/
theorem sub_one {x y : Str} {s : Nat} (ey : TL.tl y = [s]) : Builtin.Str.subAt x y 0 = decide ((TL.tl x).head? = some s) := by
  have ey2 : y.cps.toList = [s] := ey
  have ly : y.length = 1 := by
    have : y.cps.toList.length = y.length := Array.length_toList
    rw [← this, ey2]
    rfl
  rw [PySem.StrLaws.subAt_eq, ly, ey2, List.drop_zero]
  show (List.take 1 (TL.tl x) == [s]) = _
  cases TL.tl x with
  | nil => rfl
  | cons a r =>
    rw [Bool.eq_iff_iff]
    simp
theorem starts_one {x y : Str} {s : Nat} (ey : TL.tl y = [s]) : Txt.startswith x y = decide ((TL.tl x).head? = some s) := by
  unfold Txt.startswith
  rw [sub_one ey]
  have ly : y.length = 1 := by
    rw [← tl_length, ey]
    rfl
  cases h : TL.tl x with
  | nil => simp
  | cons a r =>
    have lx : x.length = r.length + 1 := by
      rw [← tl_length, h]
      rfl
    rw [decide_eq_true (show 0 + y.length ≤ x.length by omega), Bool.true_and]
theorem rp_hit {x y : Str} {s : Nat} {r : List Nat} (ey : TL.tl y = [s]) (ex : TL.tl x = s :: r) : TL.tl (Txt.removeprefix x y) = r := by
  unfold Txt.removeprefix
  rw [sub_one ey, ex]
  have ly : y.length = 1 := by
    rw [← tl_length, ey]
    rfl
  have lx : x.length = r.length + 1 := by
    rw [← tl_length, ex]
    rfl
  simp only [List.head?_cons, decide_true, if_true]
  unfold Txt.affix
  dsimp only
  rw [if_neg (by rw [beq_iff_eq, ly, lx]; omega), ly, TL.tl_strSub_end, ex]
  rfl
theorem rp_miss {x y : Str} {s : Nat} (ey : TL.tl y = [s]) (ex : (TL.tl x).head? ≠ some s) : Txt.removeprefix x y = x := by
  unfold Txt.removeprefix
  rw [sub_one ey, decide_eq_false ex]
  rfl
theorem digit_one {c : Nat} (h : 48 ≤ c ∧ c ≤ 57) : Unicode.isDigit c = true := by
  obtain ⟨a, b⟩ := h
  have : c = 48 ∨ c = 49 ∨ c = 50 ∨ c = 51 ∨ c = 52 ∨ c = 53 ∨ c = 54 ∨ c = 55 ∨ c = 56 ∨ c = 57 := by omega
  rcases this with h | h | h | h | h | h | h | h | h | h <;> (subst h; decide +kernel)

/-- the signs of a number without its dash -/
def absL (n : Int) : List Nat := (Nat.toDigits 10 n.natAbs).map Char.toNat
theorem absL_ne {n : Int} : absL n ≠ [] := digits_ne
theorem num_digits {x : Str} {n : Int} (e : TL.tl x = absL n) : Txt.isascii x = true ∧ Txt.isdigit x = true := by
  have d : ∀ c ∈ x.cps.toList, 48 ≤ c ∧ c ≤ 57 := fun c hc => by
    have hc : c ∈ TL.tl x := hc
    rw [e] at hc
    exact digs c hc
  constructor
  · unfold Txt.isascii
    rw [Array.all_eq_true']
    intro c hc
    have := d c (Array.mem_toList_iff.mpr hc)
    exact decide_eq_true (by omega)
  · unfold Txt.isdigit
    rw [Bool.and_eq_true, Array.all_eq_true']
    refine ⟨decide_eq_true ?_, fun c hc => digit_one (d c (Array.mem_toList_iff.mpr hc))⟩
    rw [← tl_length, e]
    exact List.length_pos_iff.mpr absL_ne
theorem dash_off {n : Int} : TL.tl (Txt.removeprefix (nS n) "-") = absL n := by
  have ey : TL.tl (Str.ofString "-") = [45] := by decide
  by_cases h : n < 0
  · exact rp_hit ey (signs_neg h)
  · have e := signs_pos (n := n) (by omega)
    rw [rp_miss ey, e]
    · rfl
    · rw [e]
      intro z
      cases hd : absL n with
      | nil => exact absL_ne hd
      | cons c r =>
        have z : (absL n).head? = some 45 := z
        rw [hd] at z
        have := digs (m := n.natAbs) c (by show c ∈ absL n; rw [hd]; exact List.mem_cons_self ..)
        injection z with z
        omega
theorem nS_reads {n : Int} (h : Nine n) : PySem.intText? (nS n) = some n := by
  unfold Nine at h
  by_cases a : n < 0
  · have e : (nS n).cps.toList = 45 :: absL n := signs_neg a
    have z := PySem.intText_neg (x := nS n) e (fun c hc => digs c hc) absL_ne (by
      have := nS_mid (n := n) (by unfold Mid; omega)
      omega)
    rw [z]
    have v := PySem.W.KIN.val_back n.natAbs
    unfold absL
    rw [v]
    congr 1
    omega
  · exact PySem.W.KIN.num_reads (by omega) (by omega)
def spWholeN : Sp := fun vs H Q _ => ∃ n : Int, vs = [.str (nS n)] ∧ Nine n ∧ Q (.int n) H
theorem ok_wholeN (T : Txt K mg) : FnOk P w K mg base CX0 1 T.a_whole_in T.d_whole_in ["word"] spWholeN := by
  refine T.F_whole_in.ok sc_whole_in (fun vs H Q E h => ?_) (fun cdv A outer s H vs Q E hr h => ?_)
  · obtain ⟨n, rfl, _⟩ := h
    rfl
  · obtain ⟨n, rfl, hn, k⟩ := h
    have nd := sc_whole_in.nd
    refine ⟨_, (pss_cons (ps_set (i := 1) nd rfl (Or.inl rfl) (pe_m1 PySem.F.slot_str_removeprefix PySem.F.type_str_removeprefix mt_removeprefix (pv 0) pe_str))
    (pss_one (ps_ret (pe_ifExp (PW.pt (pw_and (pt_val (pe_m0 PySem.F.slot_str_isascii PySem.F.type_str_isascii mt_isascii (pv 1))) (pw_and1 (pt_val (pe_m0 PySem.F.slot_str_isdigit PySem.F.type_str_isdigit mt_isdigit (pv 1)))))) (pe_callTy call_int_str (by rfl) T.z_int (by decide +kernel) (pa_cons (pv 0) pa_nil)) pe_non)))), ?_⟩
    have d := num_digits (dash_off (n := n))
    have ln := nS_mid (n := n) (by unfold Nine at hn; unfold Mid; omega)
    refine asg_go ?_
    refine ⟨_, rfl, ⟨_, rfl⟩, _, _, rfl, rfl, by have := sizeLine_eq; omega, ?_⟩
    dsimp only [gName]
    refine ret_go ?_
    refine ⟨_, rfl, ⟨_, rfl⟩, _, rfl, rfl, trivial, _, rfl, ifT d.1 ?_⟩
    refine ⟨_, rfl, ⟨_, rfl⟩, _, rfl, rfl, trivial, _, rfl, ifT d.2 ?_⟩
    exact ⟨_, rfl, nS n, n, rfl, nS_reads hn, by omega, k⟩
def spFactor : Sp := fun vs H Q _ => ∃ (t : Int) (x : Str), vs = [.str x] ∧ TL.tl x = headL t ∧ Nine t ∧ t ≠ 0 ∧ Q (.int t) H
theorem ok_factor (T : Txt K mg) : FnOk P w K mg base CX0 2 T.a__factor T.d__factor ["word"] spFactor := by
  have G_whole_in : FnOk P w K mg base CX0 1 T.a_whole_in T.d_whole_in ["word"] spWholeN := ok_wholeN T
  refine T.F__factor.ok sc__factor (fun vs H Q E h => ?_) (fun cdv A outer s H vs Q E hr h => ?_)
  · obtain ⟨t, x, rfl, _⟩ := h
    rfl
  · obtain ⟨t, x, rfl, hx, hn, h0, k⟩ := h
    have nd := sc__factor.nd
    refine ⟨_, (pss_cons (ps_if (pt_cmpR op_eq (pv 0) pe_str (nomark _)) (pss_one (ps_ret pe_int)) pss_nil)
    (pss_cons (ps_if (pt_cmpR op_eq (pv 0) pe_str (nomark _)) (pss_one (ps_ret (pe_un un_neg pe_int))) pss_nil)
    (pss_one (ps_ret (pe_call G_whole_in (hr.mono (by first | decide | omega)) (by rfl) T.m_whole_in T.k_whole_in T.b_whole_in .nil pass0 (pa_cons (pv 0) pa_nil)))))), ?_⟩
    have ee : TL.tl (Str.ofString "") = [] := by decide
    have ed : TL.tl (Str.ofString "-") = [45] := by decide
    have ne : ∀ {y : Str}, TL.tl x ≠ TL.tl y → decide (V.str x = V.str y) = false := fun {y} h => decide_eq_false fun e => by
      injection e with e
      exact h (by rw [e])
    unfold headL at hx
    by_cases h1 : t = 1
    · rw [if_pos h1] at hx
      have e : x = Str.ofString "" := tl_inj (by rw [hx, ee])
      refine seqif_go (tst_go ?_)
      refine ⟨_, rfl, rfl, _, rfl, ifT (by rw [e]; exact decide_eq_true rfl) ?_⟩
      rw [h1] at k
      exact k
    rw [if_neg h1] at hx
    by_cases h2 : t = -1
    · rw [if_pos h2] at hx
      have e : x = Str.ofString "-" := tl_inj (by rw [hx, ed])
      refine seqif_go (tst_go ?_)
      refine ⟨_, rfl, rfl, _, rfl, ifF (ne (by rw [hx, ee]; simp)) ?_⟩
      dsimp only [tNext]
      refine seqif_go (tst_go ?_)
      refine ⟨_, rfl, rfl, _, rfl, ifT (by rw [e]; exact decide_eq_true rfl) ?_⟩
      rw [h2] at k
      exact ⟨_, rfl, k⟩
    rw [if_neg h2] at hx
    have e : x = nS t := tl_inj hx
    refine seqif_go (tst_go ?_)
    refine ⟨_, rfl, rfl, _, rfl, ifF (ne (by rw [hx, ee]; exact nS_ne)) ?_⟩
    dsimp only [tNext]
    refine seqif_go (tst_go ?_)
    refine ⟨_, rfl, rfl, _, rfl, ifF (ne (by rw [hx, ed]; exact nS_dash)) ?_⟩
    dsimp only [tNext]
    refine ret_go ?_
    exact ⟨_, rfl, t, by rw [e]; rfl, hn, k⟩
def spUParts (K : PySem.W.Frag) : Sp := fun vs H Q _ => ∃ (t q : Int), vs = [.str (upperS t q)] ∧ Nine t ∧ Nine q ∧ ∀ p H', Same H H' → H' p = some (.tup [.int t, .int q]) → Q (.ref p) H'
theorem ok_uparts (T : Txt K mg) : FnOk P w K mg base CX0 3 T.a__upper_parts T.d__upper_parts ["upper"] (spUParts K) := by
  have G_whole_in : FnOk P w K mg base CX0 1 T.a_whole_in T.d_whole_in ["word"] spWholeN := ok_wholeN T
  have G__factor : FnOk P w K mg base CX0 2 T.a__factor T.d__factor ["word"] spFactor := ok_factor T
  refine T.F__upper_parts.ok sc__upper_parts (fun vs H Q E h => ?_) (fun cdv A outer s H vs Q E hr h => ?_)
  · obtain ⟨t, q, rfl, _⟩ := h
    rfl
  · obtain ⟨t, q, rfl, ht, hq, k⟩ := h
    have nd := sc__upper_parts.nd
    refine ⟨_, (pss_cons (ps_asg (pe_partition (pv 0) pe_str) (pg_tup rfl (pgs_cons (pg_name (i := 1) nd rfl (Or.inl rfl)) (pgs_cons (pg_name (i := 2) nd rfl (Or.inl rfl)) (pgs_cons (pg_name (i := 3) nd rfl (Or.inl rfl)) pgs_nil)))))
    (pss_cons (ps_if (pt_cmpR op_eq (pv 2) pe_str (nomark _)) (pss_one (ps_ret (pe_tup (pa_cons pe_int (pa_cons (pe_call G_whole_in (hr.mono (by first | decide | omega)) (by rfl) T.m_whole_in T.k_whole_in T.b_whole_in .nil pass0 (pa_cons (pv 1) pa_nil)) pa_nil))))) pss_nil)
    (pss_cons (ps_set (i := 4) nd rfl (Or.inl rfl) (pe_ifExp (pt_cmpR op_eq (pv 3) pe_str (nomark _)) pe_int (pe_call G_whole_in (hr.mono (by first | decide | omega)) (by rfl) T.m_whole_in T.k_whole_in T.b_whole_in .nil pass0 (pa_cons (pe_m1 PySem.F.slot_str_removeprefix PySem.F.type_str_removeprefix mt_removeprefix (pv 3) pe_str) pa_nil))))
    (pss_one (ps_ret (pe_tup (pa_cons (pe_call G__factor (hr.mono (by first | decide | omega)) (by rfl) T.m__factor T.k__factor T.b__factor .nil pass0 (pa_cons (pv 1) pa_nil)) (pa_cons (pv 4) pa_nil)))))))), ?_⟩
    have en : TL.tl (Str.ofString "n") = [110] := by decide
    have ee : TL.tl (Str.ofString "") = [] := by decide
    have lu : (upperS t q).length ≤ sizeLine := by
      have := upper_len (t := t) (q := q) (by unfold Nine at ht; unfold Mid; omega) (by unfold Nine at hq; unfold Mid; omega)
      have := sizeLine_eq
      omega
    by_cases h0 : t = 0
    · have e : upperS t q = nS q := tl_inj (by rw [upper_tl, if_pos h0])
      have no : 110 ∉ TL.tl (upperS t q) := fun m => by
        rw [e] at m
        have := nS_signs _ m
        omega
      refine asg_go ?_
      refine ⟨_, rfl, ⟨_, rfl⟩, _, _, rfl, rfl, by decide, lu, fun p np => ?_⟩
      rw [TL.partition_none (y := Str.ofString "n") en no]
      refine ⟨p, _, rfl, SqT.of upd_same, rfl, _, _, rfl, _, _, rfl, _, _, rfl, rfl, ?_⟩
      dsimp only [gName]
      refine seqif_go (tst_go ?_)
      refine ⟨_, rfl, rfl, _, rfl, ifT (by decide +kernel) ?_⟩
      refine ret_go ?_
      refine ⟨_, rfl, q, by rw [e]; rfl, hq, szL (Nat.le_of_ble_eq_true rfl), fun p2 np2 => ?_⟩
      rw [← h0]
      exact k _ _ ((same_new np).trans (same_new np2)) upd_same
    have e : upperS t q = (⟨(headL t).toArray⟩ : Str) ++ Str.ofString "n" ++ (⟨(tailL q).toArray⟩ : Str) := tl_inj (by
      rw [upper_tl, if_neg h0, TL.tl_append, TL.tl_append, en]
      show _ = (headL t ++ [110]) ++ tailL q
      rw [List.append_assoc]
      rfl)
    have no : 110 ∉ TL.tl (⟨(headL t).toArray⟩ : Str) := fun m => by
      rw [TL.tl_mk] at m
      have := head_signs _ m
      omega
    refine asg_go ?_
    refine ⟨_, rfl, ⟨_, rfl⟩, _, _, rfl, rfl, by decide, lu, fun p np => ?_⟩
    rw [e, TL.partition_app (y := Str.ofString "n") en no]
    refine ⟨p, _, rfl, SqT.of upd_same, rfl, _, _, rfl, _, _, rfl, _, _, rfl, rfl, ?_⟩
    dsimp only [gName]
    refine seqif_go (tst_go ?_)
    refine ⟨_, rfl, rfl, _, rfl, ifF (by decide +kernel) ?_⟩
    dsimp only [tNext]
    have lb : (⟨(tailL q).toArray⟩ : Str).length ≤ sizeLine := by
      have z := congrArg Str.length e
      rw [Str.length_append] at z
      omega
    refine asg_go ?_
    by_cases hq0 : q = 0
    · subst hq0
      refine ⟨_, rfl, rfl, _, rfl, ifT (decide_eq_true (by rw [show (⟨(tailL 0).toArray⟩ : Str) = Str.ofString "" from tl_inj rfl])) ?_⟩
      dsimp only [gName]
      refine ret_go ?_
      refine ⟨_, rfl, t, _, rfl, TL.tl_mk _, ht, h0, _, rfl, szL (Nat.le_of_ble_eq_true rfl), fun p2 np2 => ?_⟩
      exact k _ _ ((same_new np).trans (same_new np2)) upd_same
    have et := plus_tl hq0
    have rp : Txt.removeprefix (⟨(tailL q).toArray⟩ : Str) (Str.ofString "+") = nS q := by
      have ep : TL.tl (Str.ofString "+") = [43] := by decide
      by_cases a : q < 0
      · rw [if_pos a] at et
        rw [rp_miss ep]
        · exact tl_inj et
        · show (tailL q).head? ≠ some 43
          rw [et, signs_neg a]
          simp
      · rw [if_neg a] at et
        exact tl_inj (rp_hit ep (by show tailL q = _; exact et))
    have nz : decide (V.str (⟨(tailL q).toArray⟩ : Str) = V.str (Str.ofString "")) = false := decide_eq_false fun z => by
      injection z with z
      have z : tailL q = [] := congrArg TL.tl z
      rw [et] at z
      split at z
      · exact nS_ne z
      · cases z
    refine ⟨_, rfl, rfl, _, rfl, ifF nz ?_⟩
    refine ⟨_, rfl, ⟨_, rfl⟩, _, _, rfl, rfl, lb, q, by rw [rp]; rfl, hq, ?_⟩
    dsimp only [gName]
    refine ret_go ?_
    refine ⟨_, rfl, t, _, rfl, TL.tl_mk _, ht, h0, _, rfl, szL (Nat.le_of_ble_eq_true rfl), fun p2 np2 => ?_⟩
    exact k _ _ ((same_new np).trans (same_new np2)) upd_same

end
end K17
namespace K17
open PySem PySem.Spec PyProof.Rows L2 Rs
local macro_rules | `(tactic| walk_at "om") => `(tactic| first | omega | (dsimp only; omega))
local macro_rules | `(tactic| walk_at "side") => `(tactic| first | omega | (dsimp only; omega) | decide | (unfold CMul; omega) | (unfold CDiv; omega) | (unfold CPow; omega) | exact wide_div (b := 64) (by omega) (by omega) (by decide) (by decide))
local macro_rules | `(tactic| walk_at "hp") => `(tactic| first | assumption | exact upd_same)
local macro_rules | `(tactic| walk_at "sq") => `(tactic| first | assumption | exact SqL.of (by assumption) | exact SqL.of upd_same)
local macro_rules | `(tactic| walk_at "st") => `(tactic| first
  | refine ⟨_, rfl, ?_⟩
  | (refine ⟨_, _, rfl, rfl, And.intro ?side ?_⟩; (case side => walk_at "side"))
  | refine ⟨_, _, rfl, rfl, ?_⟩
  | (refine' ⟨_, _, _, _, rfl, rfl, SqL.of ?hp, ?atx, ?_⟩; (case hp => walk_at "hp"); (case atx => exact rfl))
  | (refine' ⟨_, _, _, _, rfl, rfl, ?hp, ?atx, ?_⟩; (case hp => walk_at "hp"); (case atx => exact rfl))
  | (refine' ⟨_, _, rfl, Or.inl ?sq, ?_⟩; (case sq => walk_at "sq"))
  | refine Or.inl ⟨_, rfl, ?_⟩
  | refine Or.inr ⟨_, rfl, ?_⟩)
local macro_rules | `(tactic| walk_at "evd") => `(tactic| first
  | exact evd_int
  | exact evd_str
  | exact evd_non
  | exact evd_bl
  | exact evd_nil
  | (refine evd_cons ?_ (fun _ => ?_) <;> walk_at "evd")
  | (refine evd_tup ?_ (Nat.le_of_ble_eq_true rfl); walk_at "evd"))

section
variable {P : Program} {w : World} {K : PySem.W.Frag} {mg : Str → Option Value} {base : Heap}
theorem cutS_tail {x : Str} : TL.tl (cutS x (some 1) none) = (TL.tl x).drop 1 := by
  show (((x.cps.toList.drop (HT.sIx x.length 0 (some 1))).take (HT.sIx x.length x.length none - HT.sIx x.length 0 (some 1)))) = _
  have e : HT.sIx x.length 0 (some 1) = min 1 x.length := HT.sIx_nat x.length 0 1
  have l : (TL.tl x).length = x.length := tl_length x
  have l2 : x.cps.toList.length = x.length := l
  rw [HT.sIx_none, e]
  show (x.cps.toList.drop _).take _ = x.cps.toList.drop 1
  rcases Nat.lt_or_ge 0 x.length with h | h
  · rw [Nat.min_eq_left (by omega), ← l2, ← List.length_drop, List.take_length]
  · have z : x.cps.toList = [] := List.length_eq_zero_iff.mp (by omega)
    rw [z, List.drop_nil, List.drop_nil, List.take_nil]
def spParts : Sp := fun vs H Q _ => ∃ (t q c : Int), vs = [.str (formText t q c)] ∧ FormR t q c ∧ ∀ p H', Same H H' → H' p = some (.tup [.int t, .int q, .int c]) → Q (.ref p) H'
theorem ok_parts (T : Txt K mg) : FnOk P w K mg base CX0 4 T.a__parts T.d__parts ["text"] spParts := by
  have G_whole_in : FnOk P w K mg base CX0 1 T.a_whole_in T.d_whole_in ["word"] spWholeN := ok_wholeN T
  have G__upper_parts : FnOk P w K mg base CX0 3 T.a__upper_parts T.d__upper_parts ["upper"] (spUParts K) := ok_uparts T
  have G__text : FnOk P w K mg base CX0 2 T.a__text T.d__text ["times", "plus", "by"] spFText := ok_ftext T
  refine T.F__parts.ok sc__parts (fun vs H Q E h => ?_) (fun cdv A outer s H vs Q E hr h => ?_)
  · obtain ⟨t, q, c, rfl, _⟩ := h
    rfl
  · obtain ⟨t, q, c, rfl, r, k⟩ := h
    have nd := sc__parts.nd
    refine ⟨_, (pss_cons (ps_set (i := 1) nd rfl (Or.inl rfl) (pv 0))
    (pss_cons (ps_set (i := 2) nd rfl (Or.inl rfl) pe_int)
    (pss_cons (ps_if (pt_val (pe_m1 PySem.F.slot_str_startswith PySem.F.type_str_startswith mt_startswith (pv 0) pe_str)) (pss_cons (ps_asg (pe_partition (pe_slice sl_str (pv 0) (po_some pe_int) po_none) pe_str) (pg_tup rfl (pgs_cons (pg_name (i := 1) nd rfl (Or.inl rfl)) (pgs_cons (pg_name (i := 3) nd rfl (Or.inl rfl)) (pgs_cons (pg_name (i := 4) nd rfl (Or.inl rfl)) pgs_nil)))))
    (pss_one (ps_set (i := 2) nd rfl (Or.inl rfl) (pe_call G_whole_in (hr.mono (by first | decide | omega)) (by rfl) T.m_whole_in T.k_whole_in T.b_whole_in .nil pass0 (pa_cons (pv 4) pa_nil))))) pss_nil)
    (pss_cons (ps_asg (pe_call G__upper_parts (hr.mono (by first | decide | omega)) (by rfl) T.m__upper_parts T.k__upper_parts T.b__upper_parts .nil pass0 (pa_cons (pv 1) pa_nil)) (pg_tup rfl (pgs_cons (pg_name (i := 5) nd rfl (Or.inl rfl)) (pgs_cons (pg_name (i := 6) nd rfl (Or.inl rfl)) pgs_nil))))
    (pss_cons (ps_if (PW.pt (pw_or (pt_cmpR (op_inTD rfl (un65 hr)) pe_non (pe_tup (pa_cons (pv 5) (pa_cons (pv 6) (pa_cons (pv 2) pa_nil)))) (by rfl)) (pw_or1 (pt_cmpR op_ne (pe_call G__text (hr.mono (by first | decide | omega)) (by rfl) T.m__text T.k__text T.b__text .nil pass0 (pa_cons (pv 5) (pa_cons (pv 6) (pa_cons (pv 2) pa_nil)))) (pv 0) (nomark _))))) (pss_one (ps_ret pe_non)) pss_nil)
    (pss_one (ps_ret (pe_tup (pa_cons (pv 5) (pa_cons (pv 6) (pa_cons (pv 2) pa_nil))))))))))), ?_⟩
    refine asg_go ⟨_, rfl, ?_⟩
    dsimp only [gName]
    have t9 : Nine t := r.t1
    have q9 : Nine q := r.q1
    have c9 : Nine c := by have := r.c1; have := r.c2; unfold Nine; omega
    have t1 := r.t1
    have q1 := r.q1
    have c1 := r.c1
    have c2 := r.c2
    have fl := form_len r
    have e9 := sizeLine_eq
    have e40 : TL.tl (Str.ofString "(") = [40] := by decide
    have e41 : TL.tl (Str.ofString ")/") = [41, 47] := by decide
    refine asg_go ?_
    dsimp only [gName, tC]
    refine seq_k (fun σ' H' => ∃ y3 y4, σ' = [some (.str (formText t q c)), some (.str (upperS t q)), some (.int c), y3, y4, none, none] ∧ Same H H') (fun σ' H' hC => ?_) (fun R hR => ?_)
    · obtain ⟨y3, y4, rfl, s1⟩ := hC
      refine ⟨_, rfl, t, q, rfl, t9, q9, fun p H2 s2 hp => ?_⟩
      refine ⟨p, _, rfl, SqT.of hp, rfl, _, _, rfl, _, _, rfl, rfl, ?_⟩
      dsimp only [gName]
      refine seqif_go (or_go (tst_go ?_))
      have sh : SeqAt.shaped (.tuple [.int t, .int q, .int c]) = true := (okD.tuple (k := 0) (ds := [.int t, .int q, .int c]) fun d hd => by
        simp only [List.mem_cons, List.not_mem_nil, or_false] at hd
        rcases hd with rfl | rfl | rfl <;> exact ⟨rfl, Nat.le_refl _⟩).shaped (by decide)
      have sn : SeqAt.shaped .none = true := okD.shaped (k := 0) ⟨rfl, Nat.le_refl _⟩ (by decide)
      refine ⟨_, rfl, _, rfl, _, rfl, szL (Nat.le_of_ble_eq_true rfl), fun p2 np2 => ⟨.none, [.int t, .int q, .int c], .non, .tup (SqT.of upd_same) (.cons (.int _) (.cons (.int _) (.cons (.int _) .nil))), sn, sh, _, rfl, ifF rfl (tst_go ?_)⟩⟩
      refine ⟨_, rfl, _, rfl, _, rfl, t, q, c, rfl, by unfold Mid; omega, by unfold Mid; omega, c1, by unfold Mid; omega, _, rfl, rfl, _, rfl, ifF (by simp) ?_⟩
      dsimp only [tNext]
      refine ret_go ?_
      refine ⟨_, rfl, _, rfl, _, rfl, szL (Nat.le_of_ble_eq_true rfl), fun p3 np3 => ?_⟩
      exact k _ _ (((s1.trans s2).trans (same_new np2)).trans (same_new np3)) upd_same
    by_cases h1 : c = 1
    · have e : formText t q c = upperS t q := if_pos h1
      have sw : Txt.startswith (formText t q c) (Str.ofString "(") = false := by
        rw [e, starts_one e40]
        refine decide_eq_false fun z => ?_
        have m : 40 ∈ TL.tl (upperS t q) := List.mem_of_mem_head? z
        have := upper_signs _ m
        omega
      refine ⟨_, rfl, ⟨_, rfl⟩, _, _, rfl, rfl, _, rfl, ifF sw ?_⟩
      refine hR _ _ ⟨none, none, ?_, Same.refl _⟩
      rw [e, h1]
      rfl
    · have e : formText t q c = Str.ofString "(" ++ (upperS t q ++ (Str.ofString ")/" ++ nS c)) := if_neg h1
      have sw : Txt.startswith (formText t q c) (Str.ofString "(") = true := by
        rw [e, starts_one e40, TL.tl_append, e40]
        rfl
      have cut : cutS (formText t q c) (some 1) none = upperS t q ++ Str.ofString ")/" ++ nS c := tl_inj (by
        have z := cutS_tail (x := formText t q c)
        rw [z, e, TL.tl_append, e40, TL.tl_append, TL.tl_append, TL.tl_append, TL.tl_append, List.append_assoc]
        rfl)
      have no : 41 ∉ TL.tl (upperS t q) := fun m => by
        have := upper_signs _ m
        omega
      refine ⟨_, rfl, ⟨_, rfl⟩, _, _, rfl, rfl, _, rfl, ifT sw ?_⟩
      have lc := cutS_length (formText t q c) (some 1) none
      refine asg_go ?_
      refine ⟨_, rfl, _, rfl, _, rfl, by omega, ⟨_, rfl⟩, _, _, rfl, rfl, by decide, by omega, fun p np => ?_⟩
      rw [cut, TL.partition_app (y := Str.ofString ")/") e41 no]
      refine ⟨p, _, rfl, SqT.of upd_same, rfl, _, _, rfl, _, _, rfl, _, _, rfl, rfl, ?_⟩
      dsimp only [gName]
      exact ⟨_, rfl, c, rfl, c9, hR _ _ ⟨_, _, rfl, same_new np⟩⟩
def spRead (CF : Addr) : Sp := fun vs H Q _ => ∃ (t q c : Int), vs = [.ref CF, .str (formText t q c)] ∧ FormR t q c ∧ ∀ x dx H', Same H H' → H' x = some (.ins CF dx (fldF t q c)) → Q (.ref x) H'
theorem ok_read (T : Txt K mg) : FnOk P w K mg base CX0 5 T.a_Form_read T.d_Form_read ["cls", "text"] (spRead T.c_Form) := by
  have G__parts : FnOk P w K mg base CX0 4 T.a__parts T.d__parts ["text"] spParts := ok_parts T
  have GI_Form : FnOk P w K mg base CX0 2 T.a_Form___init__ T.d_Form___init__ ["self", "times", "plus", "by"] (spFormG T.c_Form) := ok_formG T
  refine T.F_Form_read.ok sc_Form_read (fun vs H Q E h => ?_) (fun cdv A outer s H vs Q E hr h => ?_)
  · obtain ⟨t, q, c, rfl, _⟩ := h
    rfl
  · obtain ⟨t, q, c, rfl, r, k⟩ := h
    have nd := sc_Form_read.nd
    refine ⟨_, (pss_cons (ps_set (i := 2) nd rfl (Or.inl rfl) (pe_call G__parts (hr.mono (by first | decide | omega)) (by rfl) T.m__parts T.k__parts T.b__parts .nil pass0 (pa_cons (pv 1) pa_nil)))
    (pss_cons (ps_if (pt_cmpR op_isN (pv 2) pe_non (nomark _)) (pss_one ps_never) pss_nil)
    (pss_cons (ps_asg (pv 2) (pg_tup rfl (pgs_cons (pg_name (i := 3) nd rfl (Or.inl rfl)) (pgs_cons (pg_name (i := 4) nd rfl (Or.inl rfl)) (pgs_cons (pg_name (i := 5) nd rfl (Or.inl rfl)) pgs_nil)))))
    (pss_one (ps_ret (pe_makeV (i := 0) T.M_Form GI_Form (hr.mono (by first | decide | omega)) rfl (Or.inl rfl) T.b_Form___init__ .nil pass0 (pa_cons (pv 3) (pa_cons (pv 4) (pa_cons (pv 5) pa_nil))))))))), ?_⟩
    have c1 := r.c1
    refine ⟨_, rfl, t, q, c, rfl, r, fun p H1 s1 hp => ?_⟩
    dsimp only [gName]
    refine seqif_go (tst_go ?_)
    refine ⟨_, rfl, rfl, _, rfl, ifF (decide_eq_false (fun z => nomatch z)) ?_⟩
    dsimp only [tNext]
    refine ⟨_, rfl, p, _, rfl, SqT.of hp, rfl, _, _, rfl, _, _, rfl, _, _, rfl, rfl, ?_⟩
    dsimp only [gName]
    refine ret_go ?_
    refine ⟨rfl, ?_⟩
    refine ⟨_, rfl, _, rfl, _, rfl, fun x dx nx ndx ne => ⟨x, dx, t, q, c, rfl, upd_same, c1, rfl, ?_⟩⟩
    exact k x dx _ (s1.trans (same_made nx ndx)) upd_same

end
end K17
namespace K17
open PySem PySem.Spec PyProof.Rows L2 Rs
local macro_rules | `(tactic| walk_at "om") => `(tactic| first | omega | (dsimp only; omega))
local macro_rules | `(tactic| walk_at "side") => `(tactic| first | omega | (dsimp only; omega) | decide | (unfold CMul; omega) | (unfold CDiv; omega) | (unfold CPow; omega) | exact wide_div (b := 64) (by omega) (by omega) (by decide) (by decide))
local macro_rules | `(tactic| walk_at "hp") => `(tactic| first | assumption | exact upd_same)
local macro_rules | `(tactic| walk_at "sq") => `(tactic| first | assumption | exact SqL.of (by assumption) | exact SqL.of upd_same)
local macro_rules | `(tactic| walk_at "st") => `(tactic| first
  | refine ⟨_, rfl, ?_⟩
  | (refine ⟨_, _, rfl, rfl, And.intro ?side ?_⟩; (case side => walk_at "side"))
  | refine ⟨_, _, rfl, rfl, ?_⟩
  | (refine' ⟨_, _, _, _, rfl, rfl, SqL.of ?hp, ?atx, ?_⟩; (case hp => walk_at "hp"); (case atx => exact rfl))
  | (refine' ⟨_, _, _, _, rfl, rfl, ?hp, ?atx, ?_⟩; (case hp => walk_at "hp"); (case atx => exact rfl))
  | (refine' ⟨_, _, rfl, Or.inl ?sq, ?_⟩; (case sq => walk_at "sq"))
  | refine Or.inl ⟨_, rfl, ?_⟩
  | refine Or.inr ⟨_, rfl, ?_⟩)
local macro_rules | `(tactic| walk_at "evd") => `(tactic| first
  | exact evd_int
  | exact evd_str
  | exact evd_non
  | exact evd_bl
  | exact evd_nil
  | (refine evd_cons ?_ (fun _ => ?_) <;> walk_at "evd")
  | (refine evd_tup ?_ (Nat.le_of_ble_eq_true rfl); walk_at "evd"))

section
variable {P : Program} {w : World} {K : PySem.W.Frag} {mg : Str → Option Value} {base : Heap}
theorem rounds_join {d : BD} : roundsText d = Txt.join blank [Str.ofString "rounds", formText d.t d.q d.c] := by
  rw [TL.join_eq]
  unfold roundsText
  show _ = Str.ofString "rounds" ++ blank ++ formText d.t d.q d.c
  refine tl_inj ?_
  rw [TL.tl_append, TL.tl_append, TL.tl_append]
  have e : TL.tl (Str.ofString "rounds ") = TL.tl (Str.ofString "rounds") ++ TL.tl blank := by decide
  rw [e]
theorem rounds_split {d : BD} : Txt.split (roundsText d) blank = [Str.ofString "rounds", formText d.t d.q d.c] := by
  rw [rounds_join]
  refine TL.split_join (s := 32) (S := []) (by decide) (by decide +kernel) (by simp) fun p h m => ?_
  simp only [List.mem_cons, List.not_mem_nil, or_false] at h
  rcases h with h | h <;> subst h
  · exact absurd m (by decide)
  · exact (form_signs _ m).2 rfl
theorem rounds_part {d : BD} : Txt.partition (roundsText d) blank = (Str.ofString "rounds", blank, formText d.t d.q d.c) := by
  have e : roundsText d = Str.ofString "rounds" ++ blank ++ formText d.t d.q d.c := by
    rw [rounds_join, TL.join_eq]
    rfl
  rw [e]
  exact TL.partition_app (s := 32) (S := []) (by decide) (by decide)
theorem lane_part {l : LD} (i : LI l) : Txt.partition (laneText l) blank = (l.w, blank, l.s ++ (blank ++ (formText l.t l.q l.c ++ (blank ++ l.d)))) := by
  rw [lane_eq, ← Str.append_assoc]
  exact TL.partition_app (s := 32) (S := []) (by decide) fun m => (word_signs (.inl i.w) _ m).2 rfl
/-- a line is a block's first row, or a lane's -/
def spRoundsIn (CF : Addr) : Sp := fun vs H Q _ => (∃ d, vs = [.str (roundsText d)] ∧ FormR d.t d.q d.c ∧ ∀ x dx H', Same H H' → H' x = some (.ins CF dx (fldF d.t d.q d.c)) → Q (.ref x) H') ∨
  ∃ l, vs = [.str (laneText l)] ∧ LI l ∧ ∀ H', Same H H' → Q .non H'
theorem ok_rounds_in (T : Txt K mg) : FnOk P w K mg base CX0 6 T.a__rounds_in T.d__rounds_in ["line"] (spRoundsIn T.c_Form) := by
  have R_Form_read : FnR P w K mg base CX0 5 T.a_Form_read (spRead T.c_Form) := fnR (ok_read T) T.b_Form_read
  refine T.F__rounds_in.ok sc__rounds_in (fun vs H Q E h => ?_) (fun cdv A outer s H vs Q E hr h => ?_)
  · rcases h with ⟨d, rfl, _⟩ | ⟨l, rfl, _⟩ <;> rfl
  · have nd := sc__rounds_in.nd
    refine ⟨_, (pss_cons (ps_asg (pe_partition (pv 0) pe_str) (pg_tup rfl (pgs_cons (pg_name (i := 1) nd rfl (Or.inl rfl)) (pgs_cons (pg_name (i := 2) nd rfl (Or.inl rfl)) (pgs_cons (pg_name (i := 3) nd rfl (Or.inl rfl)) pgs_nil)))))
    (pss_cons (ps_if (pt_cmpR op_ne (pv 1) pe_str (nomark _)) (pss_one (ps_ret pe_non)) pss_nil)
    (pss_one (ps_try_thru0 (pss_one (ps_ret (ClX.pe_cmeth (pe_glob rfl T.m_Form (rel_ref _)) T.R_Form T.G_Form_read R_Form_read (hr.mono (by first | decide | omega)) pass0 (pa_cons (pv 3) pa_nil)))))))), ?_⟩
    have e9 := sizeLine_eq
    rcases h with ⟨d, rfl, r, k⟩ | ⟨l, rfl, li, k⟩
    · have ln : (roundsText d).length ≤ 100 := by
        have a := form_len r
        have b : (Str.ofString "rounds ").length = 7 := by decide
        unfold roundsText
        rw [Str.length_append]
        omega
      refine asg_go ?_
      refine ⟨_, rfl, ⟨_, rfl⟩, _, _, rfl, rfl, by decide, by omega, fun p np => ?_⟩
      rw [show Txt.partition (roundsText d) (Str.ofString " ") = _ from rounds_part]
      refine ⟨p, _, rfl, SqT.of upd_same, rfl, _, _, rfl, _, _, rfl, _, _, rfl, rfl, ?_⟩
      dsimp only [gName]
      refine seqif_go (tst_go ?_)
      refine ⟨_, rfl, rfl, _, rfl, ifF (by simp) ?_⟩
      dsimp only [tNext]
      refine ret_go ?_
      refine ⟨rfl, _, rfl, d.t, d.q, d.c, rfl, r, fun x dx H' s' hx => ?_⟩
      exact k x dx H' ((same_new np).trans s') hx
    · have ln := lane_len li
      refine asg_go ?_
      refine ⟨_, rfl, ⟨_, rfl⟩, _, _, rfl, rfl, by decide, by omega, fun p np => ?_⟩
      rw [show Txt.partition (laneText l) (Str.ofString " ") = _ from lane_part li]
      refine ⟨p, _, rfl, SqT.of upd_same, rfl, _, _, rfl, _, _, rfl, _, _, rfl, rfl, ?_⟩
      dsimp only [gName]
      have ne : l.w ≠ Str.ofString "rounds" := fun e => by
        have h := li.w
        rw [e] at h
        exact absurd h (by decide +kernel)
      refine seqif_go (tst_go ?_)
      refine ⟨_, rfl, rfl, _, rfl, ifT ?_ ?_⟩
      · rw [decide_eq_false (fun e => ne (by injection e))]
        rfl
      · exact k _ (same_new np)
def spLaneIn (CL CF : Addr) : Sp := fun vs H Q _ => (∃ d, vs = [.str (roundsText d)] ∧ FormR d.t d.q d.c ∧ ∀ H', Same H H' → Q .non H') ∨
  ∃ l, vs = [.str (laneText l)] ∧ LI l ∧ ∀ u H', Same H H' → LaneO CL CF H' u l → Q u H'
theorem ok_lane_in (T : Txt K mg) : FnOk P w K mg base CX0 6 T.a__lane_in T.d__lane_in ["line"] (spLaneIn T.c_Lane T.c_Form) := by
  have R_Form_read : FnR P w K mg base CX0 5 T.a_Form_read (spRead T.c_Form) := fnR (ok_read T) T.b_Form_read
  have GI_Lane : FnOk P w K mg base CX0 2 T.a_Lane___init__ T.d_Lane___init__ ["self", "way", "sign", "shift", "deed"] (spLaneG T.c_Lane T.c_Form) := ok_laneG T
  refine T.F__lane_in.ok sc__lane_in (fun vs H Q E h => ?_) (fun cdv A outer s H vs Q E hr h => ?_)
  · rcases h with ⟨d, rfl, _⟩ | ⟨l, rfl, _⟩ <;> rfl
  · have nd := sc__lane_in.nd
    refine ⟨_, (pss_cons (ps_set (i := 1) nd rfl (Or.inl rfl) (pe_split (pv 0) pe_str))
    (pss_cons (ps_if (pt_cmpR op_ne (pe_callB call_len_seq (by rfl) T.z_len (by decide +kernel) (pa_cons (pv 1) pa_nil)) pe_int (nomark _)) (pss_one (ps_ret pe_non)) pss_nil)
    (pss_cons (ps_asg (pv 1) (pg_tupL rfl (pgs_cons (pg_name (i := 2) nd rfl (Or.inl rfl)) (pgs_cons (pg_name (i := 3) nd rfl (Or.inl rfl)) (pgs_cons (pg_name (i := 4) nd rfl (Or.inl rfl)) (pgs_cons (pg_name (i := 5) nd rfl (Or.inl rfl)) pgs_nil))))))
    (pss_one (ps_try_thru0 (pss_one (ps_ret (pe_make T.M_Lane GI_Lane (hr.mono (by first | decide | omega)) (by rfl) T.m_Lane T.b_Lane___init__ .nil pass0 (pa_cons (pv 2) (pa_cons (pv 3) (pa_cons (ClX.pe_cmeth (pe_glob rfl T.m_Form (rel_ref _)) T.R_Form T.G_Form_read R_Form_read (hr.mono (by first | decide | omega)) pass0 (pa_cons (pv 4) pa_nil)) (pa_cons (pv 5) pa_nil)))))))))))), ?_⟩
    have e9 := sizeLine_eq
    rcases h with ⟨d, rfl, r, k⟩ | ⟨l, rfl, li, k⟩
    · have ln : (roundsText d).length ≤ 100 := by
        have a := form_len r
        have b : (Str.ofString "rounds ").length = 7 := by decide
        unfold roundsText
        rw [Str.length_append]
        omega
      refine asg_go ?_
      refine ⟨_, rfl, ⟨_, rfl⟩, _, _, rfl, rfl, by decide, by omega, fun p np => ?_⟩
      rw [show Txt.split (roundsText d) (Str.ofString " ") = _ from rounds_split]
      dsimp only [gName]
      refine seqif_go (tst_go ?_)
      refine ⟨_, rfl, p, _, rfl, .inl (SqL.of upd_same), rfl, _, rfl, ifT (by show (!decide (V.int ((2 : Nat) : Int) = V.int 4)) = true; decide) ?_⟩
      exact k _ (same_new np)
    · have ln := lane_len li
      refine asg_go ?_
      refine ⟨_, rfl, ⟨_, rfl⟩, _, _, rfl, rfl, by decide, by omega, fun p np => ?_⟩
      rw [show Txt.split (laneText l) (Str.ofString " ") = _ from lane_split li]
      dsimp only [gName]
      refine seqif_go (tst_go ?_)
      refine ⟨_, rfl, p, _, rfl, .inl (SqL.of upd_same), rfl, _, rfl, ifF (by show (!decide (V.int ((4 : Nat) : Int) = V.int 4)) = false; decide) ?_⟩
      dsimp only [tNext]
      refine asg_go ?_
      refine ⟨_, rfl, p, _, rfl, SqL.of upd_same, rfl, _, _, rfl, _, _, rfl, _, _, rfl, _, _, rfl, rfl, ?_⟩
      dsimp only [gName]
      refine ret_go ?_
      have s0 := same_new (o := .lst (List.map V.str [l.w, l.s, formText l.t l.q l.c, l.d])) np
      refine ⟨_, rfl, _, rfl, rfl, _, rfl, l.t, l.q, l.c, rfl, li.r, fun y dy H1 s1 hy => ?_⟩
      refine ⟨_, rfl, fun x dx nx ndx ne => ⟨x, dx, y, l, rfl, upd_same, li, ⟨dy, same_two nx ndx _ _ hy⟩, rfl, ?_⟩⟩
      rw [upd_upd]
      have s2 : Same H1 (upd (upd H1 dx (.own x)) x (.ins T.c_Lane dx (fldL l y))) := same_two nx ndx
      exact k _ _ ((s0.trans s1).trans s2) ⟨x, dx, y, rfl, upd_same, ⟨dy, s2 _ _ hy⟩, li⟩

end
end K17
namespace K17
open PySem PySem.Spec PyProof.Rows L2 Rs
local macro_rules | `(tactic| walk_at "om") => `(tactic| first | omega | (dsimp only; omega))
local macro_rules | `(tactic| walk_at "side") => `(tactic| first | omega | (dsimp only; omega) | decide | (unfold CMul; omega) | (unfold CDiv; omega) | (unfold CPow; omega) | exact wide_div (b := 64) (by omega) (by omega) (by decide) (by decide))
local macro_rules | `(tactic| walk_at "hp") => `(tactic| first | assumption | exact upd_same)
local macro_rules | `(tactic| walk_at "sq") => `(tactic| first | assumption | exact SqL.of (by assumption) | exact SqL.of upd_same)
local macro_rules | `(tactic| walk_at "st") => `(tactic| first
  | refine ⟨_, rfl, ?_⟩
  | (refine ⟨_, _, rfl, rfl, And.intro ?side ?_⟩; (case side => walk_at "side"))
  | refine ⟨_, _, rfl, rfl, ?_⟩
  | (refine' ⟨_, _, _, _, rfl, rfl, SqL.of ?hp, ?atx, ?_⟩; (case hp => walk_at "hp"); (case atx => exact rfl))
  | (refine' ⟨_, _, _, _, rfl, rfl, ?hp, ?atx, ?_⟩; (case hp => walk_at "hp"); (case atx => exact rfl))
  | (refine' ⟨_, _, rfl, Or.inl ?sq, ?_⟩; (case sq => walk_at "sq"))
  | refine Or.inl ⟨_, rfl, ?_⟩
  | refine Or.inr ⟨_, rfl, ?_⟩)
local macro_rules | `(tactic| walk_at "evd") => `(tactic| first
  | exact evd_int
  | exact evd_str
  | exact evd_non
  | exact evd_bl
  | exact evd_nil
  | (refine evd_cons ?_ (fun _ => ?_) <;> walk_at "evd")
  | (refine evd_tup ?_ (Nat.le_of_ble_eq_true rfl); walk_at "evd"))

section
variable {P : Program} {w : World} {K : PySem.W.Frag} {mg : Str → Option Value} {base : Heap}
/-- one block that is being read: its list of lanes does not stand at F -/
def Entry (CL CF F : Addr) (H : Hp) (v : V) (d : BD) : Prop := ∃ p y L us, v = .ref p ∧ H p = some (.tup [.ref y, .ref L]) ∧ FormO CF H y d.t d.q d.c ∧ L ≠ F ∧ H L = some (.lst us) ∧ AllR (LaneO CL CF H) us d.ls
theorem Entry.same {CL CF F : Addr} {H H' : Hp} {v : V} {d : BD} (h : Entry CL CF F H v d) (s : Same H H') : Entry CL CF F H' v d := by
  obtain ⟨p, y, L, us, e, hp, hy, n, hL, a⟩ := h
  exact ⟨p, y, L, us, e, s _ _ hp, hy.fz (Fz.of_same s), n, s _ _ hL, a.mono fun v l h => h.same s⟩
/-- the list at F is written -/
theorem Entry.setF {CL CF F : Addr} {H : Hp} {v : V} {d : BD} {xs : List V} {o : HO} (h : Entry CL CF F H v d) (e0 : H F = some (.lst xs)) : Entry CL CF F (upd H F o) v d := by
  obtain ⟨p, y, L, us, e, hp, hy, n, hL, a⟩ := h
  have z : Fz H (upd H F o) := Fz.lst e0
  exact ⟨p, y, L, us, e, z _ _ trivial hp, hy.fz z, n, by rw [upd_ne n]; exact hL, a.mono fun v l h => h.fz z⟩
/-- another list is written -/
theorem Entry.setL {CL CF F G : Addr} {H : Hp} {v : V} {d : BD} {xs : List V} {o : HO} (h : Entry CL CF F H v d) (off : Off G H v) (e0 : H G = some (.lst xs)) : Entry CL CF F (upd H G o) v d := by
  obtain ⟨p, y, L, us, rfl, hp, hy, n, hL, a⟩ := h
  obtain ⟨p', f', L', e', hp', nG⟩ := off
  cases e'
  rw [hp] at hp'
  have e2 := Option.some.inj hp'
  injection e2 with e2
  injection e2 with _ e2
  injection e2 with e2 _
  injection e2 with e2
  subst e2
  have z : Fz H (upd H G o) := Fz.lst e0
  exact ⟨p, y, L, us, rfl, z _ _ trivial hp, hy.fz z, n, by rw [upd_ne nG]; exact hL, a.mono fun v l h => h.fz z⟩
theorem AllR.last {α β : Type} {R : α → β → Prop} {as : List α} {bs : List β} (h : AllR R as bs) : as ≠ [] → ∃ as' a bs' b, as = as' ++ [a] ∧ bs = bs' ++ [b] ∧ AllR R as' bs' ∧ R a b := by
  induction h with
  | nil => intro n; exact absurd rfl n
  | cons z r ih =>
    intro _
    cases r with
    | nil => exact ⟨[], _, [], _, rfl, rfl, .nil, z⟩
    | cons z2 r2 =>
      obtain ⟨as', a', bs', b', e1, e2, h1, h2⟩ := ih (by simp)
      exact ⟨_ :: as', a', _ :: bs', b', by rw [e1]; rfl, by rw [e2]; rfl, .cons z h1, h2⟩
theorem lines_ne {d : BD} : blockLines d ≠ [] := by
  unfold blockLines
  simp
def BInv (CL CF : Addr) (H0 : Hp) (ds : List BD) (F : Addr) (i : Nat) (Hc : Hp) : Prop := ∃ vs, Hc F = some (.lst vs) ∧ Same H0 Hc ∧
  ((∃ pre post, ds = pre ++ post ∧ i = (pre.flatMap blockLines).length ∧ AllR (Entry CL CF F Hc) vs pre) ∨
    ∃ pre d post j vp p y L us, ds = pre ++ d :: post ∧ j < d.ls.length ∧ i = (pre.flatMap blockLines).length + 1 + j ∧ vs = vp ++ [.ref p] ∧ AllR (fun v d => Entry CL CF F Hc v d ∧ Off L Hc v) vp pre ∧
      Hc p = some (.tup [.ref y, .ref L]) ∧ FormO CF Hc y d.t d.q d.c ∧ L ≠ F ∧ H0 L = none ∧ Hc L = some (.lst us) ∧ AllR (LaneO CL CF Hc) us (d.ls.take j))
def spBlocksIn (CB CL CF : Addr) : Sp := fun vs H Q _ => ∃ (a : Addr) (ds : List BD), vs = [.ref a] ∧ H a = some (.lst ((ds.flatMap blockLines).map V.str)) ∧ ds ≠ [] ∧ ds.length ≤ 100 ∧ (∀ d ∈ ds, BI d) ∧
  ∀ u bs H', Same H H' → H' u = some (.lst bs) → AllR (BlockO CB CL CF H') bs ds → Q (.ref u) H'
theorem ok_blocks_in (T : Txt K mg) : FnOk P w K mg base CX0 7 T.a__blocks_in T.d__blocks_in ["lines"] (spBlocksIn T.c_Block T.c_Lane T.c_Form) := by
  have G__rounds_in : FnOk P w K mg base CX0 6 T.a__rounds_in T.d__rounds_in ["line"] (spRoundsIn T.c_Form) := ok_rounds_in T
  have G__lane_in : FnOk P w K mg base CX0 6 T.a__lane_in T.d__lane_in ["line"] (spLaneIn T.c_Lane T.c_Form) := ok_lane_in T
  have GI_Block : FnOk P w K mg base CX0 2 T.a_Block___init__ T.d_Block___init__ ["self", "rounds", "lanes"] (spBlockG K T.c_Block T.c_Form T.c_Lane) := ok_blockG T
  refine T.F__blocks_in.ok sc__blocks_in (fun vs H Q E h => ?_) (fun cdv A outer s H vs Q E hr h => ?_)
  · obtain ⟨a, ds, rfl, _⟩ := h
    rfl
  · obtain ⟨a, ds, rfl, ha, ne, dl, bis, k⟩ := h
    have nd := sc__blocks_in.nd
    refine ⟨_, (pss_cons (ps_set (i := 1) nd rfl (Or.inl rfl) (pe_lst pa_nil))
    (pss_cons (ps_for PassesOwn.never rfl (pi_enum (by rfl) T.z_enumerate (pa_cons (pv 0) pa_nil)) (pg_tup rfl (pgs_cons (pg_name (i := 2) nd rfl (Or.inl rfl)) (pgs_cons (pg_name (i := 3) nd rfl (Or.inl rfl)) pgs_nil)))
    (pss_cons (ps_set (i := 4) nd rfl (Or.inl rfl) (pe_call G__rounds_in (hr.mono (by first | decide | omega)) (by rfl) T.m__rounds_in T.k__rounds_in T.b__rounds_in .nil pass0 (pa_cons (pv 3) pa_nil)))
    (pss_cons (ps_set (i := 5) nd rfl (Or.inl rfl) (pe_call G__lane_in (hr.mono (by first | decide | omega)) (by rfl) T.m__lane_in T.k__lane_in T.b__lane_in .nil pass0 (pa_cons (pv 3) pa_nil)))
    (pss_one (ps_if (PW.pt (pw_and (pt_cmpR op_notN (pv 4) pe_non (nomark _)) (pw_and1 (PW.pt (pw_or (pt_cmpR op_eq (pe_callB call_len_seq (by rfl) T.z_len (by decide +kernel) (pa_cons (pv 1) pa_nil)) pe_int (nomark _)) (pw_or1 (pt_cmpR op_gt (pe_callB call_len_seq (by rfl) T.z_len (by decide +kernel) (pa_cons (pe_ix ix_seq (pe_ix ix_seq (pv 1) (pe_un un_neg pe_int) (fun _ _ => rfl)) pe_int (fun _ _ => rfl)) pa_nil)) pe_int (nomark _)))))))) (pss_one (ps_expr (pe_bm PySem.F.plainAttrs_list PySem.F.slot_list_append PySem.F.type_list_append mt_append (pv 1) (pa_cons (pe_tup (pa_cons (pv 4) (pa_cons (pe_lst pa_nil) pa_nil))) pa_nil)))) (pss_one (ps_if (PW.pt (pw_and (pt_cmpR op_notN (pv 5) pe_non (nomark _)) (pw_and1 (pt_cmpR op_gt (pe_callB call_len_seq (by rfl) T.z_len (by decide +kernel) (pa_cons (pv 1) pa_nil)) pe_int (nomark _))))) (pss_one (ps_expr (pe_bm PySem.F.plainAttrs_list PySem.F.slot_list_append PySem.F.type_list_append mt_append (pe_ix ix_seq (pe_ix ix_seq (pv 1) (pe_un un_neg pe_int) (fun _ _ => rfl)) pe_int (fun _ _ => rfl)) (pa_cons (pv 5) pa_nil)))) (pss_one ps_never))))))))
    (pss_cons (ps_if (pt_cmpR op_eq (pe_callB call_len_seq (by rfl) T.z_len (by decide +kernel) (pa_cons (pe_ix ix_seq (pe_ix ix_seq (pv 1) (pe_un un_neg pe_int) (fun _ _ => rfl)) pe_int (fun _ _ => rfl)) pa_nil)) pe_int (nomark _)) (pss_one ps_never) pss_nil)
    (pss_one (ps_ret (pe_lc (own := [("rounds", 4), ("lanes", 6)]) (g := (gTup K 2 (gCons (gName 4) (gCons (gName 6) gNil)))) (by rfl) nd (pi_list (pv 1)) (blkOk_by (N := ["lines", "found", "at", "line", "rounds", "lane", "lanes"]) (sc := defScope s__blocks_in) (own := [("rounds", 4), ("lanes", 6)]) (by decide +kernel)) (fun _ _ _ _ _ => by exact (pg_tup rfl (pgs_cons (pg_name (i := 4) nd rfl (Or.inl rfl)) (pgs_cons (pg_name (i := 6) nd rfl (Or.inl rfl)) pgs_nil)))) (fun _ _ _ _ _ => by exact pts_nil) (fun _ _ _ _ _ => by exact (pe_make T.M_Block GI_Block (hr.mono (by first | decide | omega)) (by rfl) T.m_Block T.b_Block___init__ .nil pass0 (pa_cons (pv 4) (pa_cons (pv 6) pa_nil)))))))))), ?_⟩
    have e9 := sizeLine_eq
    have small := flat_len bis
    have pick1 : ∀ {pre post : List BD} {d : BD}, ds = pre ++ d :: post → (ds.flatMap blockLines)[(pre.flatMap blockLines).length]? = some (roundsText d) := fun {pre post d} e => by
      rw [e, List.flatMap_append, List.getElem?_append_right (Nat.le_refl _), Nat.sub_self, List.flatMap_cons]
      rfl
    have pick2 : ∀ {pre post : List BD} {d : BD} {j : Nat} {l : LD}, ds = pre ++ d :: post → d.ls[j]? = some l → (ds.flatMap blockLines)[(pre.flatMap blockLines).length + 1 + j]? = some (laneText l) := fun {pre post d j l} e hj => by
      have lj := (List.getElem?_eq_some_iff.mp hj).1
      rw [e, List.flatMap_append, List.getElem?_append_right (by omega), show (pre.flatMap blockLines).length + 1 + j - (pre.flatMap blockLines).length = j + 1 by omega, List.flatMap_cons]
      show (roundsText d :: (d.ls.map laneText) ++ _)[j + 1]? = _
      rw [List.cons_append, List.getElem?_cons_succ, List.getElem?_append_left (by rw [List.length_map]; exact lj), List.getElem?_map, hj]
      rfl
    refine ⟨szL (Nat.le_of_ble_eq_true rfl), fun F nF => ?_⟩
    have sF := same_new (o := .lst []) nF
    refine ⟨_, rfl, a, _, rfl, SqL.of (sF _ _ ha), for_it (walk_enum (xs := (ds.flatMap blockLines).map V.str)) (fun i σ Hc => ∃ y2 y3 y4 y5, σ = [some (.ref a), some (.ref F), y2, y3, y4, y5, none] ∧ BInv T.c_Lane T.c_Form H ds F i Hc)
      ⟨none, none, none, none, rfl, [], upd_same, sF, .inl ⟨[], ds, rfl, rfl, .nil⟩⟩ (fun i σ Hc _ hR => ?_) (fun i v σ Hc H1 hi hP hy => ?_) (fun σ Hc hP => ?_)⟩
    · obtain ⟨_, _, _, _, _, _, _, s, _⟩ := hR
      exact SqL.of (s _ _ ha)
    · obtain ⟨y2, y3, y4, y5, rfl, vs, hF, sc, hst⟩ := hP
      obtain ⟨T', v1, v2, rfl, nT, rfl, h1, h2⟩ := hy
      cases h1
      have h2 : ((ds.flatMap blockLines).map V.str)[i]? = some v2 := h2
      rw [List.length_map] at hi
      refine ⟨T', _, rfl, SqT.of upd_same, rfl, _, _, rfl, _, _, rfl, rfl, ?_⟩
      have s1 := same_new (o := .tup [.int (i : Nat), v2]) nT
      generalize upd Hc T' (.tup [.int (i : Nat), v2]) = H1 at s1 ⊢
      dsimp only [gName]
      rcases hst with ⟨pre, post, eds, ei, hvs⟩ | ⟨pre, d, post, j, vp, p, y, L, us, eds, hj, ei, rfl, hvp, hp, hy, nLF, nL, hL, hus⟩
      · obtain ⟨d, post, rfl⟩ : ∃ d post', post = d :: post' := by
          cases post with
          | nil =>
            rw [List.append_nil] at eds
            subst eds
            omega
          | cons d post => exact ⟨d, post, rfl⟩
        have el : v2 = .str (roundsText d) := by
          rw [List.getElem?_map, ei, pick1 eds] at h2
          cases h2
          rfl
        subst el
        have di := bis d (by rw [eds]; exact List.mem_append_right _ (List.mem_cons_self ..))
        have lv := hvs.length
        have lp : pre.length < ds.length := by rw [eds, List.length_append, List.length_cons]; omega
        refine asg_go ?_
        refine ⟨_, rfl, .inl ⟨d, rfl, di.r.r, fun y dy H2 s2 hy => ?_⟩⟩
        dsimp only [gName]
        refine asg_go ?_
        refine ⟨_, rfl, .inl ⟨d, rfl, di.r.r, fun H3 s3 => ?_⟩⟩
        dsimp only [gName]
        have s13 := (s1.trans s2).trans s3
        have hF3 := s13 _ _ hF
        have hvs3 := hvs.mono fun v d h => h.same s13
        have fin : ∀ (L p : Addr), H3 L = none → upd H3 L (.lst []) p = none → BInv T.c_Lane T.c_Form H ds F (i + 1) (upd (upd (upd H3 L (.lst [])) p (.tup [.ref y, .ref L])) F (.lst (vs ++ [.ref p]))) := by
          intro L p nL np
          have t1 := same_new (o := .lst []) nL
          have t2 := same_new (o := .tup [.ref y, .ref L]) np
          have t12 := t1.trans t2
          have hF4 := t12 _ _ hF3
          have nLF : L ≠ F := fun e => by rw [e, hF3] at nL; cases nL
          have sH3 := sc.trans s13
          have nLH : H L = none := sH3.free nL
          have offs : ∀ v d, Entry T.c_Lane T.c_Form F H3 v d → Off L H3 v := fun v d h => by
            obtain ⟨p', y', L', us, e, hp', _, _, hL', _⟩ := h
            exact ⟨p', .ref y', L', e, hp', fun z => by rw [z, nL] at hL'; cases hL'⟩
          have z4 : Fz (upd (upd H3 L (.lst [])) p (.tup [.ref y, .ref L])) (upd (upd (upd H3 L (.lst [])) p (.tup [.ref y, .ref L])) F (.lst (vs ++ [.ref p]))) := Fz.lst hF4
          refine ⟨vs ++ [.ref p], upd_same, same_lst (sH3.trans t12) nF, .inr ⟨pre, d, post, 0, vs, p, y, L, [], eds, di.l0, by omega, rfl, hvs3.mono fun v d h => ⟨(h.same t12).setF hF4, ((offs v d h).fz (Fz.of_same t12)).fz z4⟩, z4 _ _ trivial upd_same, ?_, nLF, nLH, ?_, ?_⟩⟩
          · exact FormO.fz ⟨dy, t12 _ _ (s3 _ _ hy)⟩ z4
          · rw [upd_ne nLF]
            exact t2 _ _ upd_same
          · rw [List.take_zero]
            exact .nil
        refine ifs_go ?_
        refine ⟨_, rfl, rfl, _, rfl, ifT (by rw [decide_eq_false (fun z => nomatch z)]; rfl) ?_⟩
        refine or_go (tst_go ?_)
        refine ⟨_, rfl, F, _, rfl, .inl (SqL.of hF3), rfl, _, rfl, ?_⟩
        by_cases h0 : vs = []
        · subst h0
          refine ifT (by decide) (ifT rfl ?_)
          refine ⟨_, rfl, .inl ⟨rfl, _, SqL.of hF3⟩, _, rfl, szL (Nat.le_of_ble_eq_true rfl), fun L nL => ⟨szL (Nat.le_of_ble_eq_true rfl), fun p np => ⟨F, _, _, rfl, rfl, same_new np _ _ (same_new nL _ _ hF3), szl' (by decide), ?_⟩⟩⟩
          exact ⟨_, _, _, _, rfl, fin L p nL np⟩
        · refine ifF (decide_eq_false fun z => h0 (List.length_eq_zero_iff.mp (by injection z with z; omega))) ?_
          obtain ⟨vp, v0, dp, d0, rfl, rfl, hvp, h00⟩ := hvs3.last h0
          have d0i := bis d0 (by rw [eds]; simp)
          obtain ⟨p0, y0, L0, us0, rfl, hp0, _, _, hL0, hus0⟩ := id h00
          have l0 := hus0.length
          have dl0 := d0i.l0
          refine tst_go ?_
          refine ⟨_, rfl, _, rfl, .inl ⟨F, _, -1, .ref p0, rfl, rfl, SqL.of hF3, atI_last _ _, .inr (.inl ⟨p0, _, 1, .ref L0, rfl, rfl, SqT.of hp0, rfl, L0, _, rfl, .inl (SqL.of hL0), _, _, rfl, rfl, _, rfl, ifT (decide_eq_true (by omega)) ?_⟩)⟩⟩
          refine ⟨_, rfl, .inl ⟨rfl, _, SqL.of hF3⟩, _, rfl, szL (Nat.le_of_ble_eq_true rfl), fun L nL => ⟨szL (Nat.le_of_ble_eq_true rfl), fun p np => ⟨F, _, _, rfl, rfl, same_new np _ _ (same_new nL _ _ hF3), szl' (by omega), ?_⟩⟩⟩
          exact ⟨_, _, _, _, rfl, fin L p nL np⟩
      · obtain ⟨l, hl⟩ : ∃ l, d.ls[j]? = some l := ⟨_, List.getElem?_eq_getElem hj⟩
        have el : v2 = .str (laneText l) := by
          rw [List.getElem?_map, ei, pick2 eds hl] at h2
          cases h2
          rfl
        subst el
        have di := bis d (by rw [eds]; exact List.mem_append_right _ (List.mem_cons_self ..))
        have li := di.li l (List.mem_of_getElem? hl)
        have dl1 := di.l1
        have lus := hus.length
        rw [List.length_take] at lus
        refine asg_go ?_
        refine ⟨_, rfl, .inr ⟨l, rfl, li, fun H2 s2 => ?_⟩⟩
        dsimp only [gName]
        refine asg_go ?_
        refine ⟨_, rfl, .inr ⟨l, rfl, li, fun u H3 s3 hu => ?_⟩⟩
        dsimp only [gName]
        have s13 := (s1.trans s2).trans s3
        have hF3 := s13 _ _ hF
        have hp3 := s13 _ _ hp
        have hL3 := s13 _ _ hL
        obtain ⟨x9, d9, g9, rfl, _⟩ := id hu.ins
        refine ifs_go ?_
        refine ⟨_, rfl, rfl, _, rfl, ifF (by simp) (ifF rfl ?_)⟩
        refine ifs_go ?_
        refine ⟨_, rfl, rfl, _, rfl, ifT (by rw [decide_eq_false (fun z => nomatch z)]; rfl) ?_⟩
        refine tst_go ?_
        refine ⟨_, rfl, F, _, rfl, .inl (SqL.of hF3), _, _, rfl, rfl, _, rfl, ifT (decide_eq_true (by rw [List.length_append, List.length_singleton]; omega)) ?_⟩
        refine ⟨_, rfl, _, rfl, .inl ⟨F, _, -1, .ref p, rfl, rfl, SqL.of hF3, atI_last _ _, .inr (.inl ⟨p, _, 1, .ref L, rfl, rfl, SqT.of hp3, rfl, .inl ⟨rfl, _, SqL.of hL3⟩, _, rfl, L, _, _, rfl, rfl, hL3, szl' (by omega), ?_⟩)⟩⟩
        have zL : Fz H3 (upd H3 L (.lst (us ++ [.ref x9]))) := Fz.lst hL3
        have z13 : Fz Hc H3 := Fz.of_same s13
        have hus4 : AllR (LaneO T.c_Lane T.c_Form (upd H3 L (.lst (us ++ [.ref x9])))) (us ++ [.ref x9]) (d.ls.take (j + 1)) := by
          rw [take_snoc hl]
          exact AllR.snoc (hus.mono fun v l h => (h.fz z13).fz zL) (hu.fz zL)
        have hvp4 : AllR (fun v d => Entry T.c_Lane T.c_Form F (upd H3 L (.lst (us ++ [.ref x9]))) v d ∧ Off L (upd H3 L (.lst (us ++ [.ref x9]))) v) vp pre := hvp.mono fun v d h => ⟨(h.1.same s13).setL (h.2.fz z13) hL3, (h.2.fz z13).fz zL⟩
        have hF4 : upd H3 L (.lst (us ++ [.ref x9])) F = some (.lst (vp ++ [.ref p])) := by
          rw [upd_ne (Ne.symm nLF)]
          exact hF3
        have hp4 : upd H3 L (.lst (us ++ [.ref x9])) p = some (.tup [.ref y, .ref L]) := zL _ _ trivial hp3
        have hy4 := (hy.fz z13).fz zL
        refine ⟨_, _, _, _, rfl, vp ++ [.ref p], hF4, same_lst (sc.trans s13) nL, ?_⟩
        by_cases more : j + 1 < d.ls.length
        · exact .inr ⟨pre, d, post, j + 1, vp, p, y, L, _, eds, more, by omega, rfl, hvp4, hp4, hy4, nLF, nL, upd_same, hus4⟩
        · have ej : j + 1 = d.ls.length := by omega
          rw [ej, List.take_length] at hus4
          refine .inl ⟨pre ++ [d], post, by rw [eds, List.append_assoc]; rfl, ?_, AllR.snoc (hvp4.mono fun v d h => h.1) ⟨p, y, L, _, rfl, hp4, hy4, nLF, upd_same, hus4⟩⟩
          rw [List.flatMap_append, List.length_append, List.flatMap_cons, List.flatMap_nil, List.append_nil]
          unfold blockLines
          rw [List.length_cons, List.length_map]
          unfold blockLines at ei
          omega
    · obtain ⟨y2, y3, y4, y5, rfl, vs, hF, sc, hst⟩ := hP
      rw [List.length_map] at hst
      have whole : AllR (Entry T.c_Lane T.c_Form F Hc) vs ds := by
        rcases hst with ⟨pre, post, eds, ei, hvs⟩ | ⟨pre, d, post, j, vp, p, y, L, us, eds, hj, ei, _⟩
        · cases post with
          | nil =>
            rw [List.append_nil] at eds
            rw [eds]
            exact hvs
          | cons d post =>
            have z : (List.flatMap blockLines ds).length = (List.flatMap blockLines (pre ++ d :: post)).length := by rw [← eds]
            rw [List.flatMap_append, List.length_append, List.flatMap_cons, List.length_append] at z
            have : 0 < (blockLines d).length := List.length_pos_iff.mpr lines_ne
            omega
        · have z := congrArg (fun x => (List.flatMap blockLines x).length) eds
          rw [List.flatMap_append, List.length_append, List.flatMap_cons, List.length_append] at z
          have : (blockLines d).length = d.ls.length + 1 := by
            unfold blockLines
            rw [List.length_cons, List.length_map]
          omega
      have lv := whole.length
      obtain ⟨vp, v0, dp, d0, evs, eds, hvp, h00⟩ := whole.last (fun z => ne (List.length_eq_zero_iff.mp (by rw [← lv, z]; rfl)))
      have d0i := bis d0 (by rw [eds]; simp)
      obtain ⟨p0, y0, L0, us0, rfl, hp0, _, _, hL0, hus0⟩ := id h00
      have l0 := hus0.length
      have dl0 := d0i.l0
      have hF0 : Hc F = some (.lst (vp ++ [.ref p0])) := by rw [← evs]; exact hF
      dsimp only
      refine seqif_go (tst_go ?_)
      refine ⟨_, rfl, _, rfl, .inl ⟨F, _, -1, .ref p0, rfl, rfl, SqL.of hF0, atI_last _ _, .inr (.inl ⟨p0, _, 1, .ref L0, rfl, rfl, SqT.of hp0, rfl, L0, _, rfl, .inl (SqL.of hL0), rfl, _, rfl, ifF (decide_eq_false fun z => ?_) ?_⟩)⟩⟩
      · injection z with z
        omega
      dsimp only [tNext]
      refine ret_go ?_
      refine ⟨_, rfl, F, rfl, ⟨_, SqL.of hF⟩, fun G nG => ?_⟩
      refine lc_list (xs := vs) (fun i Hd => ∃ bs, Hd G = some (.lst bs) ∧ AllR (BlockO T.c_Block T.c_Lane T.c_Form Hd) bs (ds.take i) ∧ Same Hc Hd) ⟨[], upd_same, .nil, same_new nG⟩ (fun i Hd _ hR => by obtain ⟨_, _, _, s⟩ := hR; exact SqL.of (s _ _ hF)) (fun i v Hd hv hP => ?_) (fun Hd hP => ?_)
      · obtain ⟨bs, hGd, hbs, sd⟩ := hP
        obtain ⟨d, ed, hd⟩ := whole.get hv
        obtain ⟨p, y, L, us, rfl, hp, ⟨dy, hy⟩, _, hL, hus⟩ := hd.same sd
        have di := bis d (List.mem_of_getElem? ed)
        have lb := hbs.length
        rw [List.length_take] at lb
        refine ⟨p, _, rfl, SqT.of hp, rfl, _, _, rfl, _, _, rfl, rfl, rfl, ?_⟩
        refine ⟨_, rfl, _, rfl, fun x2 d2 nx nd2 ne2 => ?_⟩
        refine make_block (t := d.t) (q := d.q) (c := d.c) (ls := d.ls) hy (.inl hL) hus di nx nd2 fun H4 s4 bO => ⟨rfl, ?_⟩
        have hG4 := s4 _ _ hGd
        have zz : Fz H4 (upd H4 G (.lst (bs ++ [.ref x2]))) := Fz.lst hG4
        refine ⟨bs, hG4, szl' (by omega), bs ++ [.ref x2], upd_same, ?_, same_lst (sd.trans s4) nG⟩
        rw [take_snoc ed]
        exact AllR.snoc (hbs.mono fun v d h => (h.same s4).fz zz) (bO.fz zz)
      · obtain ⟨bs, hGd, hbs, sd⟩ := hP
        rw [lv, List.take_length] at hbs
        exact k _ bs _ (sc.trans sd) hGd hbs

end
end K17
namespace K17
open PySem PySem.Spec PyProof.Rows L2 Rs
local macro_rules | `(tactic| walk_at "om") => `(tactic| first | omega | (dsimp only; omega))
local macro_rules | `(tactic| walk_at "side") => `(tactic| first | omega | (dsimp only; omega) | decide | (unfold CMul; omega) | (unfold CDiv; omega) | (unfold CPow; omega) | exact wide_div (b := 64) (by omega) (by omega) (by decide) (by decide))
local macro_rules | `(tactic| walk_at "hp") => `(tactic| first | assumption | exact upd_same)
local macro_rules | `(tactic| walk_at "sq") => `(tactic| first | assumption | exact SqL.of (by assumption) | exact SqL.of upd_same)
local macro_rules | `(tactic| walk_at "st") => `(tactic| first
  | refine ⟨_, rfl, ?_⟩
  | (refine ⟨_, _, rfl, rfl, And.intro ?side ?_⟩; (case side => walk_at "side"))
  | refine ⟨_, _, rfl, rfl, ?_⟩
  | (refine' ⟨_, _, _, _, rfl, rfl, SqL.of ?hp, ?atx, ?_⟩; (case hp => walk_at "hp"); (case atx => exact rfl))
  | (refine' ⟨_, _, _, _, rfl, rfl, ?hp, ?atx, ?_⟩; (case hp => walk_at "hp"); (case atx => exact rfl))
  | (refine' ⟨_, _, rfl, Or.inl ?sq, ?_⟩; (case sq => walk_at "sq"))
  | refine Or.inl ⟨_, rfl, ?_⟩
  | refine Or.inr ⟨_, rfl, ?_⟩)
local macro_rules | `(tactic| walk_at "evd") => `(tactic| first
  | exact evd_int
  | exact evd_str
  | exact evd_non
  | exact evd_bl
  | exact evd_nil
  | (refine evd_cons ?_ (fun _ => ?_) <;> walk_at "evd")
  | (refine evd_tup ?_ (Nat.le_of_ble_eq_true rfl); walk_at "evd"))

section
variable {P : Program} {w : World} {K : PySem.W.Frag} {mg : Str → Option Value} {base : Heap}
/-- as PlanO, but the tuple may stand in the written part -/
def PlanT (K : PySem.W.Frag) (CP CB CL CF : Addr) (H : Hp) (v : V) (ds : List BD) : Prop := ∃ x dx tp bs d, v = .ref x ∧ H x = some (.ins CP dx (planF tp d)) ∧ SqT K H tp bs ∧ AllR (BlockO CB CL CF H) bs ds
theorem PlanO.t {CP CB CL CF : Addr} {H : Hp} {v : V} {ds : List BD} (h : PlanO CP CB CL CF H v ds) : PlanT K CP CB CL CF H v ds := by
  obtain ⟨x, dx, tp, bs, d, e, hx, ht, a⟩ := h
  exact ⟨x, dx, tp, bs, d, e, hx, SqT.of ht, a⟩
theorem PlanT.same {CP CB CL CF : Addr} {H H' : Hp} {v : V} {ds : List BD} (h : PlanT K CP CB CL CF H v ds) (s : Same H H') : PlanT K CP CB CL CF H' v ds := by
  obtain ⟨x, dx, tp, bs, d, e, hx, ht, a⟩ := h
  exact ⟨x, dx, tp, bs, d, e, s _ _ hx, Same.seqT s ht, a.mono fun v l h => h.same s⟩
theorem PlanO.same {CP CB CL CF : Addr} {H H' : Hp} {v : V} {ds : List BD} (h : PlanO CP CB CL CF H v ds) (s : Same H H') : PlanO CP CB CL CF H' v ds := h.fz (Fz.of_same s)
theorem sla_tup {K : PySem.W.Frag} {H : Hp} {a : Addr} {xs : List V} {lo hi : Option Int} {Q : VK} (h : H a = some (.tup xs)) (q : ∀ t H', Same H H' → H' t = some (.tup (cutV xs lo hi)) → Q (.ref t) H') : rSlA K (.ref a) lo hi H Q := by
  refine ⟨a, xs, rfl, SqT.of h, fun e => ?_, fun _ p np => q p _ (same_new np) upd_same⟩
  have e2 : cutV xs lo hi = xs := by
    unfold cutV
    rw [e.1, e.2, List.drop_zero, Nat.sub_zero, List.take_length]
  exact q a H (Same.refl _) (by rw [e2]; exact h)
theorem cat_tup {K : PySem.W.Frag} {H : Hp} {a b : Addr} {xs ys : List V} {Q : VK} (ha : H a = some (.tup xs)) (hb : H b = some (.tup ys)) (l : xs.length + ys.length ≤ sizeLine) (q : ∀ t H', Same H H' → H' t = some (.tup (xs ++ ys)) → Q (.ref t) H') : rCatA K (.ref a) (.ref b) H Q := by
  refine ⟨a, b, xs, ys, rfl, rfl, SqT.of ha, SqT.of hb, l, fun e => ?_, fun _ e => ?_, fun _ _ p np => q p _ (same_new np) upd_same⟩
  · refine q b H (Same.refl _) ?_
    rw [e, List.nil_append]
    exact hb
  · refine q a H (Same.refl _) ?_
    rw [e, List.append_nil]
    exact ha
theorem cut_to {xs : List V} {j : Nat} : cutV xs none (some ((j : Nat) : Int)) = xs.take j := by
  unfold cutV
  rw [HT.sIx_none, HT.sIx_nat, Nat.sub_zero, List.drop_zero, ← List.take_eq_take_min]
theorem cut_from {xs : List V} {j : Nat} (h : j ≤ xs.length) : cutV xs (some ((j : Nat) : Int)) none = xs.drop j := by
  unfold cutV
  rw [HT.sIx_none, HT.sIx_nat, Nat.min_eq_left h, ← List.length_drop, List.take_length]
theorem AllR.take {α β : Type} {R : α → β → Prop} {as : List α} {bs : List β} (h : AllR R as bs) : ∀ n, AllR R (as.take n) (bs.take n) := by
  induction h with
  | nil => intro n; rw [List.take_nil, List.take_nil]; exact .nil
  | cons z _ ih =>
    intro n
    cases n with
    | zero => exact .nil
    | succ n => exact .cons z (ih n)
theorem AllR.drop {α β : Type} {R : α → β → Prop} {as : List α} {bs : List β} (h : AllR R as bs) : ∀ n, AllR R (as.drop n) (bs.drop n) := by
  induction h with
  | nil => intro n; rw [List.drop_nil, List.drop_nil]; exact .nil
  | cons z r ih =>
    intro n
    cases n with
    | zero => exact .cons z r
    | succ n => exact ih n
theorem AllR.append {α β : Type} {R : α → β → Prop} {as as' : List α} {bs bs' : List β} (h : AllR R as bs) (h' : AllR R as' bs') : AllR R (as ++ as') (bs ++ bs') := by
  induction h with
  | nil => exact h'
  | cons z _ ih => exact .cons z ih

theorem BlockO.inj {CB CL CF : Addr} {H : Hp} {v : V} {d d' : BD} (h : BlockO CB CL CF H v d) (h' : BlockO CB CL CF H v d') : d = d' := by
  obtain ⟨x, dx, y, tp, us, rfl, hx, hy, ht, ha, _⟩ := h
  obtain ⟨x', dx', y', tp', us', e, hx', hy', ht', ha', _⟩ := h'
  cases e
  rw [hx] at hx'
  have e := Option.some.inj hx'
  injection e with _ _ e
  rw [fldB_eq, fldB_eq] at e
  simp only [List.cons.injEq, Prod.mk.injEq, V.ref.injEq, true_and, and_true] at e
  obtain ⟨e1, e2⟩ := e
  subst e1 e2
  obtain ⟨f1, f2, f3⟩ := hy.inj hy'
  rw [ht] at ht'
  have e := Option.some.inj ht'
  injection e with e
  subst e
  have f4 := AllR.fn (fun _ _ _ x y => x.inj y) ha ha'
  cases d
  cases d'
  simp only at f1 f2 f3 f4
  subst f1 f2 f3 f4
  rfl
def SB (CB CL CF : Addr) (a b : Addr) (r : Bool) (H : Hp) : Prop := ∃ l l', BlockO CB CL CF H (.ref a) l ∧ BlockO CB CL CF H (.ref b) l' ∧ r = decide (l = l')
theorem SB.mon {CB CL CF : Addr} (a b : Addr) (r : Bool) (H H' : Hp) (e : Ext H H') (h : SB CB CL CF a b r H) : SB CB CL CF a b r H' := by
  obtain ⟨l, l', h1, h2, h3⟩ := h
  exact ⟨l, l', h1.same e, h2.same e, h3⟩
theorem SB.ask {CB CL CF : Addr} (a b : Addr) (r : Bool) (H : Hp) (h : SB CB CL CF a b r H) : spBEq K CB CL CF [.ref a, .ref b] H (fun v H' => v = .bl r ∧ Ext H H') E0 := by
  obtain ⟨l, l', h1, h2, rfl⟩ := h
  exact ⟨_, _, l, rfl, h1, .inl ⟨l', h2, fun H' s => ⟨rfl, s⟩⟩⟩
theorem SB.tup {CB CL CF : Addr} {H : Hp} {p p' : Addr} {us us' : List V} {ls ls' : List BD} (h1 : SqT K H p us) (h2 : SqT K H p' us') (a1 : AllR (BlockO CB CL CF H) us ls) (a2 : AllR (BlockO CB CL CF H) us' ls') (own : p = p' → ls = ls') : DTupB K (DInsB CB (SB CB CL CF)) (.ref p) (.ref p') (decide (ls = ls')) H := by
  refine ⟨p, p', us, us', rfl, rfl, h1, h2, ⟨fun i => decide (ls[i]? = ls'[i]?), fun i x y ex ey => ?_, ?_⟩, fun e => decide_eq_true (own e)⟩
  · obtain ⟨l, el, hl⟩ := a1.get ex
    obtain ⟨l', el', hl'⟩ := a2.get ey
    obtain ⟨z, dz, gs, rfl, hz⟩ := hl.ins
    obtain ⟨z', dz', gs', rfl, hz'⟩ := hl'.ins
    refine ⟨z, z', dz, dz', gs, gs', rfl, rfl, hz, hz', ⟨l, l', hl, hl', ?_⟩, fun e => ?_⟩
    · simp only [el, el', Option.some.injEq]
    · subst e
      have e := hl.inj hl'
      simp only [el, el', e, decide_true]
  · rw [decide_eq_true_eq, a1.length, a2.length]
    constructor
    · intro e
      subst e
      exact ⟨rfl, fun i _ _ => by simp only [decide_true]⟩
    · rintro ⟨e, all⟩
      refine List.ext_getElem? fun i => ?_
      rcases Nat.lt_or_ge i ls.length with c | c
      · exact of_decide_eq_true (all i c (by omega))
      · rw [List.getElem?_eq_none c, List.getElem?_eq_none (by omega)]
def spPEq (K : PySem.W.Frag) (CP CB CL CF : Addr) : Sp := fun vs H Q _ => ∃ (u v : V), vs = [u, v] ∧
  ((∃ ds, PlanO CP CB CL CF H u ds ∧ ((∃ ds', PlanO CP CB CL CF H v ds' ∧ ∀ H', Same H H' → Q (.bl (decide (ds = ds'))) H') ∨ ∃ t, TyX K H v t ∧ PySem.W.kitOne K t (.ref CP) = some false ∧ Q (.bl false) H)) ∨
   (PlanT K CP CB CL CF H u [] ∧ PlanT K CP CB CL CF H v [] ∧ ∀ H', Same H H' → Q (.bl true) H'))
theorem ok_peq (T : Txt K mg) : FnOk P w K mg base CX0 7 T.a_Plan___eq__ T.d_Plan___eq__ ["self", "other"] (spPEq K T.c_Plan T.c_Block T.c_Lane T.c_Form) := by
  have R_beq : FnR P w K mg base CX0 5 T.a_Block___eq__ (spBEq K T.c_Block T.c_Lane T.c_Form) := fnR (ok_beq T) T.b_Block___eq__
  refine T.F_Plan___eq__.ok sc_Plan___eq__ (fun vs H Q E h => ?_) (fun cdv A outer s H vs Q E hr h => ?_)
  · obtain ⟨u, v, rfl, _⟩ := h
    rfl
  · obtain ⟨u, v, rfl, hv⟩ := h
    have nd := sc_Plan___eq__.nd
    refine ⟨_, (pss_one (ps_ret (pe_and (pe_callB call_isi (by rfl) T.z_isinstance (by decide +kernel) (pa_cons (pv 1) (pa_cons (pe_glob rfl T.m_Plan (rel_ref _)) pa_nil))) (pe_one (pe_cmpR (op_eqB (rcB_tup (monB_ins SB.mon) (RcB.eqB (rcB_ins T.O_Block R_beq pass0 SB.ask) refs)) (hr.mono (by decide))) (pe_fld (pv 0) rfl) (pe_fld (pv 1) rfl) (nomark _)))))), ?_⟩
    rcases hv with ⟨ds, ⟨x, dx, tp, bs, d, rfl, hx, ht, ab⟩, hv⟩ | ⟨⟨x, dx, tp, bs, d, rfl, hx, ht, ab⟩, ⟨x', dx', tp', bs', d', rfl, hx', ht', ab'⟩, k⟩
    · rcases hv with ⟨ds', ⟨x', dx', tp', bs', d', rfl, hx', ht', ab'⟩, k⟩ | ⟨t, ty, kt, k⟩
      · refine ⟨_, rfl, _, _, _, _, _, rfl, .own _, T.I_Plan.ty T.C_Plan hx', kit_self, _, rfl, ifT rfl ?_⟩
        refine ⟨_, rfl, x, _, dx, _, _, rfl, hx, T.C_Plan, T.n_Plan_blocks, rfl, _, rfl, x', _, dx', _, _, rfl, hx', T.C_Plan, T.n_Plan_blocks, rfl, decide (ds = ds'), SB.tup (SqT.of ht) (SqT.of ht') ab ab' (fun e => ?_), fun H' e => k H' e⟩
        subst e
        rw [ht] at ht'
        have e := Option.some.inj ht'
        injection e with e
        subst e
        exact AllR.fn (fun _ _ _ x y => x.inj y) ab ab'
      · exact ⟨_, rfl, _, _, _, _, _, rfl, .own _, ty, kt, _, rfl, ifF rfl k⟩
    · refine ⟨_, rfl, _, _, _, _, _, rfl, .own _, T.I_Plan.ty T.C_Plan hx', kit_self, _, rfl, ifT rfl ?_⟩
      exact ⟨_, rfl, x, _, dx, _, _, rfl, hx, T.C_Plan, T.n_Plan_blocks, rfl, _, rfl, x', _, dx', _, _, rfl, hx', T.C_Plan, T.n_Plan_blocks, rfl, decide (([] : List BD) = []), SB.tup ht ht' ab ab' (fun _ => rfl), fun H' e => k H' e⟩
/-! text of a plan -/
theorem joinS_append {y : Str} : ∀ {xs zs : List Str}, xs ≠ [] → zs ≠ [] → Str.join y (xs ++ zs) = Str.join y xs ++ y ++ Str.join y zs
  | [], _, h, _ => absurd rfl h
  | [x], [], _, h => absurd rfl h
  | [x], z :: zs, _, _ => rfl
  | x :: x2 :: xs, zs, _, h => by
    show x ++ y ++ Str.join y ((x2 :: xs) ++ zs) = (x ++ y ++ Str.join y (x2 :: xs)) ++ y ++ Str.join y zs
    rw [joinS_append (xs := x2 :: xs) (by simp) h]
    simp only [Str.append_assoc]
theorem plan_join : ∀ ds : List BD, Txt.join nl (ds.map blockText) = planText ds
  | [] => rfl
  | [d] => by
    rw [plan_one, TL.join_eq]
    rfl
  | d :: d2 :: ds => by
    have ih := plan_join (d2 :: ds)
    unfold planText at ih ⊢
    rw [TL.join_eq] at ih ⊢
    rw [TL.join_eq] at ih ⊢
    rw [List.flatMap_cons, joinS_append lines_ne (by rw [List.flatMap_cons]; exact fun e => lines_ne (List.append_eq_nil_iff.mp e).1), ← ih]
    show blockText d ++ nl ++ _ = _
    unfold blockText
    rw [TL.join_eq]
theorem blockText_len {d : BD} (i : BI d) : (blockText d).length ≤ 7000 := by
  have a := join_len (y := nl) (xs := blockLines d)
  have b := sum_le (fun x h => line_len i h)
  have c := lines_len i
  have e : nl.length = 1 := by decide
  rw [e] at a
  show (Txt.join nl (blockLines d)).length ≤ _
  omega
def spPStr (K : PySem.W.Frag) (CP CB CL CF : Addr) : Sp := fun vs H Q _ => ∃ (u : V) (ds : List BD), vs = [u] ∧ PlanT K CP CB CL CF H u ds ∧ ds.length ≤ 100 ∧ ∀ H', Same H H' → Q (.str (planText ds)) H'
theorem ok_pstr (T : Txt K mg) : FnOk P w K mg base CX0 11 T.a_Plan___str__ T.d_Plan___str__ ["self"] (spPStr K T.c_Plan T.c_Block T.c_Lane T.c_Form) := by
  have R_bstr : FnR P w K mg base CX0 8 T.a_Block___str__ (spBStr T.c_Block T.c_Lane T.c_Form) := fnR (ok_bstr T) T.b_Block___str__
  refine T.F_Plan___str__.ok sc_Plan___str__ (fun vs H Q E h => ?_) (fun cdv A outer s H vs Q E hr h => ?_)
  · obtain ⟨u, l, rfl, _⟩ := h
    rfl
  · obtain ⟨u, ds, rfl, ⟨x, dx, tp, bs, d, rfl, hx, ht, ab⟩, hl, k⟩ := h
    have nd := sc_Plan___str__.nd
    refine ⟨_, (pss_one (ps_ret (pe_join pe_str (pe_lc (own := [("block", 1)]) (g := (gName 1)) (by rfl) nd (pi_tup (pe_fld (pv 0) rfl)) (blkOk_by (N := ["self", "block"]) (sc := defScope s_Plan___str__) (own := [("block", 1)]) (by decide +kernel)) (fun _ _ _ _ _ => by exact (pg_name (i := 1) nd rfl (Or.inl rfl))) (fun _ _ _ _ _ => by exact pts_nil) (fun _ _ _ _ _ => by exact (pe_callTy (call_strO T.M_Block___str__ R_bstr (hr.mono (by decide)) pass0) (by rfl) T.z_str (by decide +kernel) (pa_cons (pv 1) pa_nil))))))), ?_⟩
    have lb := ab.length
    have bis : ∀ d ∈ ds, BI d := by
      intro d hd
      obtain ⟨i, e⟩ := List.getElem?_of_mem hd
      have hi := (List.getElem?_eq_some_iff.mp e).1
      obtain ⟨d', e', _, _, _, _, _, _, _, _, _, _, bi⟩ := ab.get (List.getElem?_eq_getElem (show i < bs.length by omega))
      rw [e] at e'
      cases e'
      exact bi
    refine ret_go ?_
    refine ⟨⟨_, rfl⟩, ?_⟩
    refine ⟨_, rfl, x, _, dx, _, _, rfl, hx, T.C_Plan, T.n_Plan_blocks, rfl, tp, rfl, ⟨bs, ht⟩, fun D hD => ?_⟩
    refine lc_tup (xs := bs) (fun i Hc => Hc D = some (.lst (((ds.map blockText).take i).map V.str)) ∧ Same H Hc) ⟨by rw [upd_same, List.take_zero]; rfl, same_new hD⟩ (fun i Hc _ hP => Same.seqT hP.2 ht) (fun i y Hc hy hP => ?_) (fun Hc hP => ?_)
    · obtain ⟨hDc, sc⟩ := hP
      obtain ⟨l, el, hl2⟩ := ab.get hy
      have hl2 := hl2.same sc
      obtain ⟨z, dz2, gs, rfl, hz2⟩ := hl2.ins
      have hn := (List.getElem?_eq_some_iff.mp hy).1
      refine ⟨rfl, _, rfl, z, dz2, gs, rfl, hz2, _, l, rfl, hl2, fun H3 s3 => ⟨_, rfl, ?_⟩⟩
      have eg : (ds.map blockText)[i]? = some (blockText l) := by
        rw [List.getElem?_map, el]
        rfl
      exact ⟨_, s3 _ _ hDc, szl (by rw [List.length_map, List.length_take, List.length_map]; omega), by rw [upd_same, take_snoc eg, List.map_append]; rfl, same_lst (sc.trans s3) hD⟩
    · obtain ⟨hDc, sc⟩ := hP
      rw [lb, show ds.length = (ds.map blockText).length by rw [List.length_map], List.take_length] at hDc
      have sm : ((ds.map blockText).map fun x => x.length).sum + (ds.map blockText).length * nl.length ≤ 16777216 := by
        have a := sum_le (m := 7000) (xs := ds.map blockText) (fun x hx => by
          obtain ⟨d, hd, rfl⟩ := List.mem_map.mp hx
          exact blockText_len (bis d hd))
        have c : nl.length = 1 := by decide
        rw [List.length_map] at a ⊢
        rw [c]
        omega
      refine ⟨nl, D, _, rfl, rfl, .inl (SqL.of hDc), sm, ?_⟩
      rw [plan_join]
      exact k _ sc

theorem lane_head {l : LD} (i : LI l) : (TL.tl (laneText l)).head? = some 117 ∨ (TL.tl (laneText l)).head? = some 100 := by
  have h := i.w
  unfold ways at h
  simp only [List.mem_cons, List.not_mem_nil, or_false] at h
  rw [lane_eq, TL.tl_append]
  have e1 : TL.tl (Str.ofString "up") = [117, 112] := by decide
  have e2 : TL.tl (Str.ofString "down") = [100, 111, 119, 110] := by decide
  rcases h with h | h
  · left
    rw [h, e1]
    rfl
  · right
    rw [h, e2]
    rfl
theorem rounds_head {d : BD} : (TL.tl (roundsText d)).head? = some 114 := by
  unfold roundsText
  have e1 : TL.tl (Str.ofString "rounds ") = [114, 111, 117, 110, 100, 115, 32] := by decide
  rw [TL.tl_append, e1]
  rfl
theorem lane_ne_rounds {l : LD} {d : BD} (i : LI l) : laneText l ≠ roundsText d := fun e => by
  have h := lane_head i
  rw [e, rounds_head] at h
  rcases h with h | h <;> cases h
/-- nothing, or rows that begin with a block's -/
def Rows (R : List Str) : Prop := R = [] ∨ ∃ d T, R = roundsText d :: T
theorem flat_rows : ∀ ds : List BD, Rows (ds.flatMap blockLines)
  | [] => .inl rfl
  | d :: ds => .inr ⟨d, d.ls.map laneText ++ ds.flatMap blockLines, by rw [List.flatMap_cons]; rfl⟩
theorem lanes_cut : ∀ {ls ls' : List LD} {R R' : List Str}, (∀ l ∈ ls, LI l) → (∀ l ∈ ls', LI l) → Rows R → Rows R' → ls.map laneText ++ R = ls'.map laneText ++ R' → ls = ls' ∧ R = R'
  | [], [], _, _, _, _, _, _, e => ⟨rfl, e⟩
  | [], l :: ls, R, R', _, h', r, _, e => by
    rcases r with r | ⟨d, T, r⟩
    · subst r; cases e
    · subst r
      injection e with e _
      exact absurd e.symm (lane_ne_rounds (h' l (List.mem_cons_self ..)))
  | l :: ls, [], R, R', h, _, _, r, e => by
    rcases r with r | ⟨d, T, r⟩
    · subst r; cases e
    · subst r
      injection e with e _
      exact absurd e (lane_ne_rounds (h l (List.mem_cons_self ..)))
  | l :: ls, l' :: ls', R, R', h, h', r, r', e => by
    rw [List.map_cons, List.map_cons] at e
    injection e with e1 e2
    obtain ⟨a, b⟩ := lanes_cut (fun z hz => h z (List.mem_cons_of_mem _ hz)) (fun z hz => h' z (List.mem_cons_of_mem _ hz)) r r' e2
    exact ⟨by rw [lane_inj (h l (List.mem_cons_self ..)) (h' l' (List.mem_cons_self ..)) e1, a], b⟩
theorem flat_inj : ∀ {ds ds' : List BD}, (∀ d ∈ ds, BI d) → (∀ d ∈ ds', BI d) → ds.flatMap blockLines = ds'.flatMap blockLines → ds = ds'
  | [], [], _, _, _ => rfl
  | [], d :: ds, _, _, e => by
    rw [List.flatMap_cons] at e
    cases e
  | d :: ds, [], _, _, e => by
    rw [List.flatMap_cons] at e
    cases e
  | d :: ds, d' :: ds', h, h', e => by
    rw [List.flatMap_cons, List.flatMap_cons] at e
    have i := h d (List.mem_cons_self ..)
    have i' := h' d' (List.mem_cons_self ..)
    injection e with e1 e2
    obtain ⟨a, b⟩ := lanes_cut i.li i'.li (flat_rows ds) (flat_rows ds') e2
    obtain ⟨f1, f2, f3⟩ := rounds_inj i i' e1
    have g := flat_inj (fun z hz => h z (List.mem_cons_of_mem _ hz)) (fun z hz => h' z (List.mem_cons_of_mem _ hz)) b
    cases d
    cases d'
    simp only at a f1 f2 f3
    subst a f1 f2 f3 g
    rfl
theorem flat_no_nl {ds : List BD} (h : ∀ d ∈ ds, BI d) : ∀ p ∈ ds.flatMap blockLines, 10 ∉ TL.tl p := fun p hp => by
  obtain ⟨d, hd, hp⟩ := List.mem_flatMap.mp hp
  exact line_no_nl (h d hd) p hp
theorem plan_split {ds : List BD} (h : ∀ d ∈ ds, BI d) (ne : ds ≠ []) : Txt.split (planText ds) nl = ds.flatMap blockLines := by
  refine TL.split_join (s := 10) (S := []) (by decide) (by decide +kernel) ?_ (flat_no_nl h)
  cases ds with
  | nil => exact absurd rfl ne
  | cons d ds =>
    rw [List.flatMap_cons]
    exact fun e => lines_ne (List.append_eq_nil_iff.mp e).1
theorem plan_empty {ds : List BD} (h : ∀ d ∈ ds, BI d) (ne : ds ≠ []) : planText ds ≠ planText [] := fun e => by
  have a := plan_split h ne
  rw [e] at a
  have z : Txt.split (planText []) nl = [Str.empty] := TL.split_join (parts := [Str.empty]) (s := 10) (S := []) (by decide) (by decide +kernel) (by simp) (fun p hp => by
    rw [List.mem_singleton] at hp
    subst hp
    decide)
  rw [z] at a
  cases ds with
  | nil => exact ne rfl
  | cons d ds =>
    have i := h d (List.mem_cons_self ..)
    have l := congrArg List.length a
    rw [List.flatMap_cons, List.length_append] at l
    unfold blockLines at l
    have := i.l0
    simp only [List.length_cons, List.length_map, List.length_nil] at l
    omega
theorem plan_inj {ds ds' : List BD} (h : ∀ d ∈ ds, BI d) (h' : ∀ d ∈ ds', BI d) (e : planText ds = planText ds') : ds = ds' := by
  by_cases n : ds = []
  · subst n
    by_cases n' : ds' = []
    · exact n'.symm
    · exact absurd e.symm (plan_empty h' n')
  · by_cases n' : ds' = []
    · subst n'
      exact absurd e (plan_empty h n)
    · have a := plan_split h n
      rw [e, plan_split h' n'] at a
      exact (flat_inj h' h a).symm

def spFCall (C : Addr) : Sp := fun vs H Q _ => ∃ (x : Addr) (t q c n : Int), vs = [.ref x, .int n] ∧ FormO C H x t q c ∧ CMul t n ∧ 1 ≤ c ∧ c < 1073741824 ∧ Q (.int ((t * n + q).fdiv c)) H
theorem ok_fcall (T : Txt K mg) : FnOk P w K mg base CX0 1 T.a_Form___call__ T.d_Form___call__ ["self", "n"] (spFCall T.c_Form) := by
  refine T.F_Form___call__.ok sc_Form___call__ (fun vs H Q E h => ?_) (fun cdv A outer s H vs Q E hr h => ?_)
  · obtain ⟨x, t, q, c, n, rfl, _⟩ := h
    rfl
  · obtain ⟨x, t, q, c, n, rfl, ⟨dx, hx⟩, cm, c1, c2, k⟩ := h
    have nd := sc_Form___call__.nd
    refine ⟨_, (pss_one (ps_ret (pe_op op_fdivN (pe_op op_add (pe_op op_mul (pe_fld (pv 0) rfl) (pv 1)) (pe_fld (pv 0) rfl)) (pe_fld (pv 0) rfl)))), ?_⟩
    refine ⟨_, rfl, x, _, dx, _, _, rfl, hx, T.C_Form, T.n_Form_times, rfl, _, rfl, t, n, rfl, rfl, cm, _, rfl, x, _, dx, _, _, rfl, hx, T.C_Form, T.n_Form_plus, rfl, t * n, q, rfl, rfl, _, rfl, x, _, dx, _, _, rfl, hx, T.C_Form, T.n_Form_by, rfl, ?_⟩
    exact ⟨_, c, rfl, rfl, ⟨by omega, by omega⟩, k⟩

/-- a tuple; without items it may be the written one -/
def TupE (K : PySem.W.Frag) (H : Hp) (a : Addr) (bs : List V) : Prop := H a = some (.tup bs) ∨ (bs = [] ∧ SqT K H a [])
theorem TupE.same {H H' : Hp} {a : Addr} {bs : List V} (h : TupE K H a bs) (s : Same H H') : TupE K H' a bs := h.imp (s _ _) fun h => ⟨h.1, Same.seqT s h.2⟩
theorem TupE.t {H : Hp} {a : Addr} {bs : List V} (h : TupE K H a bs) : SqT K H a bs := by
  rcases h with h | ⟨rfl, h⟩
  · exact SqT.of h
  · exact h
/-- a plan's object; without blocks its tuple may be the written one -/
def PlanE (K : PySem.W.Frag) (CP CB CL CF : Addr) (H : Hp) (v : V) (ds : List BD) : Prop := ∃ x dx tp bs d, v = .ref x ∧ H x = some (.ins CP dx (planF tp d)) ∧ TupE K H tp bs ∧ AllR (BlockO CB CL CF H) bs ds
theorem PlanE.same {CP CB CL CF : Addr} {H H' : Hp} {v : V} {ds : List BD} (h : PlanE K CP CB CL CF H v ds) (s : Same H H') : PlanE K CP CB CL CF H' v ds := by
  obtain ⟨x, dx, tp, bs, d, e, hx, ht, a⟩ := h
  exact ⟨x, dx, tp, bs, d, e, s _ _ hx, ht.same s, a.mono fun v l h => h.same s⟩
theorem PlanE.t {CP CB CL CF : Addr} {H : Hp} {v : V} {ds : List BD} (h : PlanE K CP CB CL CF H v ds) : PlanT K CP CB CL CF H v ds := by
  obtain ⟨x, dx, tp, bs, d, e, hx, ht, a⟩ := h
  exact ⟨x, dx, tp, bs, d, e, hx, ht.t, a⟩
theorem PlanO.e {CP CB CL CF : Addr} {H : Hp} {v : V} {ds : List BD} (h : PlanO CP CB CL CF H v ds) : PlanE K CP CB CL CF H v ds := by
  obtain ⟨x, dx, tp, bs, d, e, hx, ht, a⟩ := h
  exact ⟨x, dx, tp, bs, d, e, hx, .inl ht, a⟩
theorem PlanE.two {CP CB CL CF : Addr} {H : Hp} {v : V} {ds : List BD} (h : PlanE K CP CB CL CF H v ds) : PlanO CP CB CL CF H v ds ∨ (ds = [] ∧ PlanT K CP CB CL CF H v []) := by
  obtain ⟨x, dx, tp, bs, d, e, hx, ht, a⟩ := h
  rcases ht with ht | ⟨rfl, ht⟩
  · exact .inl ⟨x, dx, tp, bs, d, e, hx, ht, a⟩
  · cases a
    exact .inr ⟨rfl, x, dx, tp, [], d, e, hx, ht, .nil⟩
theorem peq_same {CP CB CL CF : Addr} {H : Hp} {u v : V} {ds : List BD} {Q : VK} {E : XK} (h1 : PlanE K CP CB CL CF H u ds) (h2 : PlanE K CP CB CL CF H v ds) (k : ∀ H', Same H H' → Q (.bl true) H') : spPEq K CP CB CL CF [u, v] H Q E := by
  refine ⟨u, v, rfl, ?_⟩
  rcases h1.two with h3 | ⟨rfl, h3⟩
  · rcases h2.two with h4 | ⟨rfl, h4⟩
    · exact .inl ⟨ds, h3, .inl ⟨ds, h4, fun H' s => by rw [decide_eq_true rfl]; exact k H' s⟩⟩
    · exact .inr ⟨h3.t, h4, k⟩
  · exact .inr ⟨h3, h2.t, k⟩
theorem make_plan {CP CB CL CF : Addr} {H : Hp} {x dx a : Addr} {bs : List V} {ds : List BD} {Q : VK} {E : XK} (ha : H a = some (.lst bs) ∨ H a = some (.tup bs)) (ab : AllR (BlockO CB CL CF H) bs ds) (nx : H x = none) (nd : H dx = none) (l : ds.length ≤ 1000)
    (k : ∀ H', Same H H' → PlanO CP CB CL CF H' (.ref x) ds → Q .non H') : spPlanS K CP CB [.ref x, .ref a] (upd (upd H dx (.own x)) x (.ins CP dx [])) Q E := by
  have sb := same_two (o1 := .own x) (o2 := .ins CP dx []) nx nd
  have hgb := ab.mono fun v l h => h.same sb
  have e := ab.length
  refine ⟨x, dx, a, bs, rfl, upd_same, by omega, fun y hy => ?_, ?_⟩
  · obtain ⟨l, _, hl⟩ := hgb.left hy
    exact hl.ins
  rcases ha with ha | ha
  · refine .inl ⟨sb _ _ ha, fun H10 tp d s10 htp => ?_⟩
    have s3 : Same H (upd H10 x (.ins CP dx (planF tp d))) := same_make nx nd s10
    have hx7 : H10 x = some (.ins CP dx []) := s10 _ _ upd_same
    have ntx : tp ≠ x := by
      rintro rfl
      rw [hx7] at htp
      cases htp
    exact k _ s3 ⟨x, dx, tp, bs, d, rfl, upd_same, by rw [upd_ne ntx]; exact htp, ab.mono fun v l h => h.same s3⟩
  · refine .inr ⟨SqT.of (sb _ _ ha), fun H10 d s10 => ?_⟩
    have s3 : Same H (upd H10 x (.ins CP dx (planF a d))) := same_make nx nd s10
    exact k _ s3 ⟨x, dx, a, bs, d, rfl, upd_same, s3 _ _ ha, ab.mono fun v l h => h.same s3⟩
theorem make_planE {CP CB CL CF : Addr} {H : Hp} {x dx a : Addr} {bs : List V} {ds : List BD} {Q : VK} {E : XK} (ha : TupE K H a bs) (ab : AllR (BlockO CB CL CF H) bs ds) (nx : H x = none) (nd : H dx = none) (l : ds.length ≤ 1000)
    (k : ∀ H', Same H H' → PlanE K CP CB CL CF H' (.ref x) ds → Q .non H') : spPlanS K CP CB [.ref x, .ref a] (upd (upd H dx (.own x)) x (.ins CP dx [])) Q E := by
  rcases id ha with h | ⟨rfl, h⟩
  · exact make_plan (.inr h) ab nx nd l fun H' s h => k H' s h.e
  · have sb := same_two (o1 := .own x) (o2 := .ins CP dx []) nx nd
    refine ⟨x, dx, a, [], rfl, upd_same, by decide, fun y hy => absurd hy (by simp), .inr ⟨Same.seqT sb h, fun H10 d s10 => ?_⟩⟩
    have s3 : Same H (upd H10 x (.ins CP dx (planF a d))) := same_make nx nd s10
    exact k _ s3 ⟨x, dx, a, [], d, rfl, upd_same, ha.same s3, ab.mono fun v l h => h.same s3⟩
theorem cat_tupE {H : Hp} {a b : Addr} {xs ys : List V} {Q : VK} (ha : TupE K H a xs) (hb : TupE K H b ys) (l : xs.length + ys.length ≤ sizeLine) (q : ∀ t H', Same H H' → TupE K H' t (xs ++ ys) → Q (.ref t) H') : rCatA K (.ref a) (.ref b) H Q := by
  refine ⟨a, b, xs, ys, rfl, rfl, ha.t, hb.t, l, fun e => ?_, fun _ e => ?_, fun _ _ p np => q p _ (same_new np) (.inl upd_same)⟩
  · refine q b H (Same.refl _) ?_
    rw [e, List.nil_append]
    exact hb
  · refine q a H (Same.refl _) ?_
    rw [e, List.append_nil]
    exact ha
def worth (ds : List BD) (n : Int) : Int := (ds.map fun d => if (d.t * n + d.q).fdiv d.c > 0 then (d.t * n + d.q).fdiv d.c else 0).sum
def spPRead (K : PySem.W.Frag) (CP CB CL CF : Addr) : Sp := fun vs H Q _ => ∃ (ds : List BD), vs = [.ref CP, .str (planText ds)] ∧ ds.length ≤ 10 ∧ (∀ d ∈ ds, BI d) ∧ ∀ u H', Same H H' → PlanE K CP CB CL CF H' u ds → Q u H'
theorem ok_pread (T : Txt K mg) : FnOk P w K mg base CX0 8 T.a_Plan_read T.d_Plan_read ["cls", "text"] (spPRead K T.c_Plan T.c_Block T.c_Lane T.c_Form) := by
  have G__blocks_in : FnOk P w K mg base CX0 7 T.a__blocks_in T.d__blocks_in ["lines"] (spBlocksIn T.c_Block T.c_Lane T.c_Form) := ok_blocks_in T
  have GI_Plan : FnOk P w K mg base CX0 2 T.a_Plan___init__ T.d_Plan___init__ ["self", "blocks"] (spPlanS K T.c_Plan T.c_Block) := ok_planS T
  obtain ⟨ds0, V0_Plan, B0_Plan⟩ := T.D_Plan___init__
  refine T.F_Plan_read.ok sc_Plan_read (fun vs H Q E h => ?_) (fun cdv A outer s H vs Q E hr h => ?_)
  · obtain ⟨ds, rfl, _⟩ := h
    rfl
  · obtain ⟨ds, rfl, hl, bis, k⟩ := h
    have nd := sc_Plan_read.nd
    refine ⟨_, (pss_cons (ps_if (pt_cmpR op_eq (pv 1) pe_str (nomark _)) (pss_one (ps_ret (pe_makeV0 (i := 0) T.M_Plan GI_Plan (hr.mono (by first | decide | omega)) rfl (Or.inl rfl) B0_Plan V0_Plan pass0))) pss_nil)
    (pss_one (ps_ret (pe_makeV (i := 0) T.M_Plan GI_Plan (hr.mono (by first | decide | omega)) rfl (Or.inl rfl) T.b_Plan___init__ .nil pass0 (pa_cons (pe_call G__blocks_in (hr.mono (by first | decide | omega)) (by rfl) T.m__blocks_in T.k__blocks_in T.b__blocks_in .nil pass0 (pa_cons (pe_split (pv 1) pe_str) pa_nil)) pa_nil))))), ?_⟩
    have e9 := sizeLine_eq
    refine seqif_go (tst_go ?_)
    refine ⟨_, rfl, rfl, _, rfl, ?_⟩
    rw [show decide (V.str (planText ds) = V.str (Str.ofString "")) = decide (planText ds = planText []) from decide_eq_decide.mpr ⟨fun e => by injection e, fun e => by rw [e]; rfl⟩]
    refine ifD (fun e => ?_) (fun e => ?_)
    · have e0 : ds = [] := by
        by_cases n : ds = []
        · exact n
        · exact absurd e (plan_empty bis n)
      subst e0
      refine ret_go ?_
      refine ⟨rfl, fun x2 d2 nx nd2 ne => ?_⟩
      refine make_planE (CL := T.c_Lane) (CF := T.c_Form) (a := T.e_Plan___init___0) (bs := []) (ds := []) (.inr ⟨rfl, T.E_Plan___init___0 _⟩) .nil nx nd2 (by decide) fun H2 s2 h2 => ⟨rfl, ?_⟩
      exact k _ _ s2 h2
    · have n : ds ≠ [] := fun z => e (by rw [z])
      dsimp only [tNext]
      refine ret_go ?_
      have ln : (planText ds).length + 2 ≤ sizeLine := by
        have a := sum_le (m := 100) (xs := ds.flatMap blockLines) (fun x hx => by
          obtain ⟨d, hd, hx⟩ := List.mem_flatMap.mp hx
          exact line_len (bis d hd) hx)
        have b := flat_len bis
        have c : nl.length = 1 := by decide
        have g := join_len (y := nl) (xs := ds.flatMap blockLines)
        rw [c] at g
        show (Txt.join nl (ds.flatMap blockLines)).length + 2 ≤ sizeLine
        omega
      refine ⟨rfl, _, rfl, ⟨_, rfl⟩, _, _, rfl, rfl, by decide, ln, fun p np => ?_⟩
      rw [show Txt.split (planText ds) (Str.ofString "\n") = _ from plan_split bis n]
      refine ⟨p, ds, rfl, upd_same, n, by omega, bis, fun u bs H1 s1 hu ab => fun x2 d2 nx nd2 ne => ?_⟩
      refine make_plan (.inl hu) ab nx nd2 (by omega) fun H2 s2 h2 => ⟨rfl, ?_⟩
      exact k _ _ ((same_new np).trans (s1.trans s2)) h2.e

end
end K17
namespace K17
open PySem PySem.Spec PyProof.Rows L2 Rs
local macro_rules | `(tactic| walk_at "om") => `(tactic| first | omega | (dsimp only; omega))
local macro_rules | `(tactic| walk_at "side") => `(tactic| first | omega | (dsimp only; omega) | decide | (unfold CMul; omega) | (unfold CDiv; omega) | (unfold CPow; omega) | exact wide_div (b := 64) (by omega) (by omega) (by decide) (by decide))
local macro_rules | `(tactic| walk_at "hp") => `(tactic| first | assumption | exact upd_same)
local macro_rules | `(tactic| walk_at "sq") => `(tactic| first | assumption | exact SqL.of (by assumption) | exact SqL.of upd_same)
local macro_rules | `(tactic| walk_at "st") => `(tactic| first
  | refine ⟨_, rfl, ?_⟩
  | (refine ⟨_, _, rfl, rfl, And.intro ?side ?_⟩; (case side => walk_at "side"))
  | refine ⟨_, _, rfl, rfl, ?_⟩
  | (refine' ⟨_, _, _, _, rfl, rfl, SqL.of ?hp, ?atx, ?_⟩; (case hp => walk_at "hp"); (case atx => exact rfl))
  | (refine' ⟨_, _, _, _, rfl, rfl, ?hp, ?atx, ?_⟩; (case hp => walk_at "hp"); (case atx => exact rfl))
  | (refine' ⟨_, _, rfl, Or.inl ?sq, ?_⟩; (case sq => walk_at "sq"))
  | refine Or.inl ⟨_, rfl, ?_⟩
  | refine Or.inr ⟨_, rfl, ?_⟩)
local macro_rules | `(tactic| walk_at "evd") => `(tactic| first
  | exact evd_int
  | exact evd_str
  | exact evd_non
  | exact evd_bl
  | exact evd_nil
  | (refine evd_cons ?_ (fun _ => ?_) <;> walk_at "evd")
  | (refine evd_tup ?_ (Nat.le_of_ble_eq_true rfl); walk_at "evd"))

section
variable {P : Program} {w : World} {K : PySem.W.Frag} {mg : Str → Option Value} {base : Heap}
/-! play: a round for one piece -/
def driftP (l : LD) (t n : Int) : Int := (if l.s = Str.ofString "+" then t else -t) + (l.t * n + l.q).fdiv l.c
def stepP (l : LD) : Int := if l.w = Str.ofString "up" then 1 else -1
def spDrift (CL CF : Addr) : Sp := fun vs H Q _ => ∃ (u : V) (l : LD) (t n : Int), vs = [u, .int t, .int n] ∧ LaneO CL CF H u l ∧ 1 ≤ n ∧ n ≤ 1000 ∧ Q (.int (driftP l t n)) H
theorem ok_drift (T : Txt K mg) : FnOk P w K mg base CX0 2 T.a_drift T.d_drift ["lane", "t", "n"] (spDrift T.c_Lane T.c_Form) := by
  have R_call : FnR P w K mg base CX0 1 T.a_Form___call__ (spFCall T.c_Form) := fnR (ok_fcall T) T.b_Form___call__
  refine T.F_drift.ok sc_drift (fun vs H Q E h => ?_) (fun cdv A outer s H vs Q E hr h => ?_)
  · obtain ⟨u, l, t, n, rfl, _⟩ := h
    rfl
  · obtain ⟨u, l, t, n, rfl, ⟨x, dx, y, rfl, hx, hy, li⟩, n0, n1, k⟩ := h
    have nd := sc_drift.nd
    refine ⟨_, (pss_cons (ps_set (i := 3) nd rfl (Or.inl rfl) (pe_ifExp (pt_cmpR op_eq (pe_fld (pv 0) rfl) pe_str (nomark _)) (pv 1) (pe_un un_neg (pv 1))))
    (pss_one (ps_ret (pe_op op_add (pv 3) (pe_callF (K := K) rfl (pv 0) T.M_Form___call__ T.fn_Form___call__ R_call (hr.mono (by decide)) pass0 (pa_cons (pv 2) pa_nil)))))), ?_⟩
    refine asg_go ?_
    refine ⟨_, rfl, x, _, dx, _, _, rfl, hx, T.C_Lane, T.n_Lane_sign, rfl, rfl, _, rfl, ?_⟩
    rw [show decide (V.str l.s = V.str (Str.ofString "+")) = decide (l.s = Str.ofString "+") from decide_eq_decide.mpr ⟨fun e => by injection e, fun e => by rw [e]⟩]
    obtain ⟨dy, hy'⟩ := id hy
    have r := li.r
    have cm : CMul l.t n := .inl ⟨by have := r.t1; omega, by have := r.t1; omega⟩
    have fin : ∀ v : Int, v = (if l.s = Str.ofString "+" then t else -t) → Q (.int (v + (l.t * n + l.q).fdiv l.c)) H := fun v e => by
      rw [e]
      exact k
    refine ifD (fun e => ?_) (fun e => ?_)
    · refine ⟨_, rfl, ?_⟩
      dsimp only [gName]
      refine ret_go ?_
      refine ⟨_, rfl, _, rfl, x, T.c_Lane, dx, _, _, rfl, hx, T.C_Lane, T.n_Lane_shift, rfl, y, dy, _, rfl, hy', _, rfl, ⟨dy, _, hy'⟩, y, l.t, l.q, l.c, n, rfl, hy, cm, r.c1, by have := r.c2; omega, _, _, rfl, rfl, ?_⟩
      exact fin t (if_pos e).symm
    · refine ⟨_, rfl, _, rfl, ?_⟩
      dsimp only [gName]
      refine ret_go ?_
      refine ⟨_, rfl, _, rfl, x, T.c_Lane, dx, _, _, rfl, hx, T.C_Lane, T.n_Lane_shift, rfl, y, dy, _, rfl, hy', _, rfl, ⟨dy, _, hy'⟩, y, l.t, l.q, l.c, n, rfl, hy, cm, r.c1, by have := r.c2; omega, _, _, rfl, rfl, ?_⟩
      exact fin (-t) (if_neg e).symm
/-- two pieces' sums -/
def addP (xs ys : List Int) : List Int := List.zipWith (· + ·) xs ys
def spAdded (K : PySem.W.Frag) : Sp := fun vs H Q _ => ∃ (a b : Addr) (xs ys : List Int), vs = [.ref a, .ref b] ∧ SqT K H a (xs.map V.int) ∧ SqT K H b (ys.map V.int) ∧ xs.length = ys.length ∧ xs.length ≤ 1000 ∧ ∀ p H', Same H H' → H p = none → H' p = some (.tup ((addP xs ys).map V.int)) → Q (.ref p) H'
theorem ok_added (T : Txt K mg) : FnOk P w K mg base CX0 1 T.a_added T.d_added ["own", "came"] (spAdded K) := by
  refine T.F_added.ok sc_added (fun vs H Q E h => ?_) (fun cdv A outer s H vs Q E hr h => ?_)
  · obtain ⟨a, b, xs, ys, rfl, _⟩ := h
    rfl
  · obtain ⟨a, b, xs, ys, rfl, ha, hb, le, ll, k⟩ := h
    have nd := sc_added.nd
    refine ⟨_, (pss_one (ps_ret (pe_callTy call_tuple_of (by rfl) T.z_tuple (by decide +kernel) (pa_cons (pe_lc (own := [("number", 2), ("other", 3)]) (g := (gTup K 2 (gCons (gName 2) (gCons (gName 3) gNil)))) (by rfl) nd (RZ.pi_zipA (by rfl) T.z_zip (pa_cons (pv 0) (pa_cons (pv 1) pa_nil))) (blkOk_by (N := ["own", "came", "number", "other"]) (sc := defScope s_added) (own := [("number", 2), ("other", 3)]) (by decide +kernel)) (fun _ _ _ _ _ => by exact (pg_tup rfl (pgs_cons (pg_name (i := 2) nd rfl (Or.inl rfl)) (pgs_cons (pg_name (i := 3) nd rfl (Or.inl rfl)) pgs_nil)))) (fun _ _ _ _ _ => by exact pts_nil) (fun _ _ _ _ _ => by exact (pe_op op_add (pv 2) (pv 3)))) pa_nil)))), ?_⟩
    refine ret_go ?_
    refine ⟨_, rfl, _, rfl, a, b, _, _, rfl, .inr ⟨ha, hb, fun D hD => ?_⟩⟩
    refine lc_it (Rs.walk_zipT (n := xs.length) (xs := xs.map V.int) (ys := ys.map V.int) (by rw [List.length_map]) (by rw [List.length_map, le])) (fun i Hc => Hc D = some (.lst (((addP xs ys).take i).map V.int)) ∧ Same H Hc)
      ⟨by rw [upd_same, List.take_zero]; rfl, same_new hD⟩ (fun i Hc _ hP => ⟨Same.seqT hP.2 ha, Same.seqT hP.2 hb⟩) (fun i v Hc H1 hi hP hy => ?_) (fun Hc hP => ?_)
    · obtain ⟨hDc, sc⟩ := hP
      obtain ⟨T', v1, v2, rfl, nT, rfl, h1, h2⟩ := hy
      have hi : i < xs.length := hi
      obtain ⟨x, ex, rfl⟩ : ∃ x, xs[i]? = some x ∧ v1 = .int x := by
        have h1 : (xs.map V.int)[i]? = some v1 := h1
        rw [List.getElem?_map, List.getElem?_eq_getElem hi] at h1
        cases h1
        exact ⟨_, List.getElem?_eq_getElem hi, rfl⟩
      obtain ⟨y, ey, rfl⟩ : ∃ y, ys[i]? = some y ∧ v2 = .int y := by
        have h2 : (ys.map V.int)[i]? = some v2 := h2
        rw [List.getElem?_map, List.getElem?_eq_getElem (by omega)] at h2
        cases h2
        exact ⟨_, List.getElem?_eq_getElem (by omega), rfl⟩
      have ez : (addP xs ys)[i]? = some (x + y) := by
        unfold addP
        rw [List.getElem?_zipWith, ex, ey]
      have s1 := same_new (o := .tup [.int x, .int y]) nT
      refine ⟨T', _, rfl, SqT.of upd_same, rfl, _, _, rfl, _, _, rfl, rfl, ?_⟩
      refine ⟨rfl, _, rfl, _, rfl, _, _, rfl, rfl, ?_⟩
      refine ⟨_, s1 _ _ hDc, szl' (by rw [List.length_map, List.length_take]; omega), ?_, same_lst (sc.trans s1) hD⟩
      rw [upd_same, take_snoc ez, List.map_append]
      rfl
    · obtain ⟨hDc, sc⟩ := hP
      have l : (addP xs ys).length = xs.length := by
        unfold addP
        rw [List.length_zipWith]
        omega
      rw [← l, List.take_length] at hDc
      refine ⟨D, _, rfl, .inl ⟨SqL.of hDc, fun p np => ?_⟩⟩
      exact k p _ (sc.trans (same_new np)) (sc.free np) upd_same

end
end K17
namespace K17
open PySem PySem.Spec PyProof.Rows L2 Rs
local macro_rules | `(tactic| walk_at "om") => `(tactic| first | omega | (dsimp only; omega))
local macro_rules | `(tactic| walk_at "side") => `(tactic| first | omega | (dsimp only; omega) | decide | (unfold CMul; omega) | (unfold CDiv; omega) | (unfold CPow; omega) | exact wide_div (b := 64) (by omega) (by omega) (by decide) (by decide))
local macro_rules | `(tactic| walk_at "hp") => `(tactic| first | assumption | exact upd_same)
local macro_rules | `(tactic| walk_at "sq") => `(tactic| first | assumption | exact SqL.of (by assumption) | exact SqL.of upd_same)
local macro_rules | `(tactic| walk_at "st") => `(tactic| first
  | refine ⟨_, rfl, ?_⟩
  | (refine ⟨_, _, rfl, rfl, And.intro ?side ?_⟩; (case side => walk_at "side"))
  | refine ⟨_, _, rfl, rfl, ?_⟩
  | (refine' ⟨_, _, _, _, rfl, rfl, SqL.of ?hp, ?atx, ?_⟩; (case hp => walk_at "hp"); (case atx => exact rfl))
  | (refine' ⟨_, _, _, _, rfl, rfl, ?hp, ?atx, ?_⟩; (case hp => walk_at "hp"); (case atx => exact rfl))
  | (refine' ⟨_, _, rfl, Or.inl ?sq, ?_⟩; (case sq => walk_at "sq"))
  | refine Or.inl ⟨_, rfl, ?_⟩
  | refine Or.inr ⟨_, rfl, ?_⟩)
local macro_rules | `(tactic| walk_at "evd") => `(tactic| first
  | exact evd_int
  | exact evd_str
  | exact evd_non
  | exact evd_bl
  | exact evd_nil
  | (refine evd_cons ?_ (fun _ => ?_) <;> walk_at "evd")
  | (refine evd_tup ?_ (Nat.le_of_ble_eq_true rfl); walk_at "evd"))

section
variable {P : Program} {w : World} {K : PySem.W.Frag} {mg : Str → Option Value} {base : Heap}
/-! who hands a piece on, to whom; what the machines have of it then -/
structure HP where
  m : Int
  g : Int
  d : Str
def hopP (t n p : Int) (l : LD) : HP := ⟨(p - driftP l t n) % n, ((p - driftP l t n) % n + stepP l) % n, l.d⟩
def HopV (H : Hp) (v : V) (h : HP) : Prop := ∃ q, v = .ref q ∧ H q = some (.tup [.int h.m, .int h.g, .str h.d])
theorem HopV.same {H H' : Hp} {v : V} {h : HP} (k : HopV H v h) (s : Same H H') : HopV H' v h := by
  obtain ⟨q, e, hq⟩ := k
  exact ⟨q, e, s _ _ hq⟩
def spHopsIn (CB CL CF : Addr) : Sp := fun vs H Q _ => ∃ (u : V) (d : BD) (t n p : Int), vs = [u, .int t, .int n, .int p] ∧ BlockO CB CL CF H u d ∧ 1 ≤ n ∧ n ≤ 1000 ∧
  ∀ D hs H', Same H H' → H D = none → H' D = some (.lst hs) → AllR (HopV H') hs (d.ls.map (hopP t n p)) → Q (.ref D) H'
theorem ok_hops_in (T : Txt K mg) (hST : ∀ l : LD, LI l → KDct K w T.A_STEPS l.w (.int (stepP l))) : FnOk P w K mg base CX0 3 T.a_hops_in T.d_hops_in ["block", "t", "n", "piece"] (spHopsIn T.c_Block T.c_Lane T.c_Form) := by
  have G_drift : FnOk P w K mg base CX0 2 T.a_drift T.d_drift ["lane", "t", "n"] (spDrift T.c_Lane T.c_Form) := ok_drift T
  refine T.F_hops_in.ok sc_hops_in (fun vs H Q E h => ?_) (fun cdv A outer s H vs Q E hr h => ?_)
  · obtain ⟨u, d, t, n, p, rfl, _⟩ := h
    rfl
  · obtain ⟨u, d, t, n, p, rfl, ⟨x, dx, y, tp, us, rfl, hx, hy, ht, ha, di⟩, n0, n1, k⟩ := h
    have nd := sc_hops_in.nd
    refine ⟨_, (pss_cons (ps_set (i := 4) nd rfl (Or.inl rfl) (pe_lst pa_nil))
    (pss_cons (ps_for PassesOwn.never rfl (pi_tup (pe_fld (pv 0) rfl)) (pg_name (i := 5) nd rfl (Or.inl rfl))
    (pss_cons (ps_set (i := 6) nd rfl (Or.inl rfl) (pe_op op_mod (pe_op op_sub (pv 3) (pe_call G_drift (hr.mono (by first | decide | omega)) (by rfl) T.m_drift T.k_drift T.b_drift .nil pass0 (pa_cons (pv 5) (pa_cons (pv 1) (pa_cons (pv 2) pa_nil))))) (pv 2)))
    (pss_one (ps_expr (pe_bm PySem.F.plainAttrs_list PySem.F.slot_list_append PySem.F.type_list_append mt_append (pv 4) (pa_cons (pe_tup (pa_cons (pv 6) (pa_cons (pe_op op_mod (pe_op op_add (pv 6) ((pe_ix (ix_kdict) (pe_glob rfl T.m_STEPS (rel_ref _)) (pe_fld (pv 5) rfl) (fun _ _ => rfl)))) (pv 2)) (pa_cons (pe_fld (pv 5) rfl) pa_nil)))) pa_nil))))))
    (pss_one (ps_ret (pv 4))))), ?_⟩
    have lu := ha.length
    have l1 := di.l1
    refine asg_go ?_
    refine ⟨szL (Nat.le_of_ble_eq_true rfl), fun D nD => ?_⟩
    have s0 := same_new (o := .lst []) nD
    dsimp only [gName]
    refine ⟨_, rfl, x, _, dx, _, _, rfl, s0 _ _ hx, T.C_Block, T.n_Block_lanes, rfl, tp, rfl, ⟨us, SqT.of (s0 _ _ ht)⟩, ?_⟩
    refine for_tup (xs := us) (fun i σ Hc => ∃ y5 y6 hs, σ = [some (.ref x), some (.int t), some (.int n), some (.int p), some (.ref D), y5, y6] ∧ Hc D = some (.lst hs) ∧ AllR (HopV Hc) hs ((d.ls.take i).map (hopP t n p)) ∧ Same H Hc)
      ⟨none, none, [], rfl, upd_same, .nil, s0⟩ (fun i σ Hc _ hR => by obtain ⟨_, _, _, _, _, _, s⟩ := hR; exact SqT.of (s _ _ ht)) (fun i v σ Hc hv hP => ?_) (fun σ Hc hP => ?_)
    · obtain ⟨y5, y6, hs, rfl, hDc, hhs, sc⟩ := hP
      obtain ⟨l, el, hl⟩ := ha.get hv
      have hn := (List.getElem?_eq_some_iff.mp hv).1
      have hl' := hl.fz (Fz.of_same sc)
      obtain ⟨xl, dl, yl, rfl, hxl, hyl, li⟩ := id hl'
      have lh := hhs.length
      rw [List.length_map, List.length_take] at lh
      dsimp only [gName]
      refine asg_go ?_
      refine ⟨_, rfl, _, rfl, _, rfl, _, rfl, .ref xl, l, t, n, rfl, hl', n0, n1, ?_⟩
      refine ⟨_, _, rfl, rfl, _, rfl, _, _, rfl, rfl, by omega, ?_⟩
      dsimp only [gName]
      refine ⟨_, rfl, .inl ⟨rfl, _, SqL.of hDc⟩, _, rfl, _, rfl, _, rfl, xl, _, dl, _, _, rfl, hxl, T.C_Lane, T.n_Lane_way, rfl, T.A_STEPS, l.w, .int (stepP l), rfl, rfl, hST l li, _, _, rfl, rfl, _, rfl, _, _, rfl, rfl, by omega, ?_⟩
      refine ⟨_, rfl, xl, _, dl, _, _, rfl, hxl, T.C_Lane, T.n_Lane_deed, rfl, szL (Nat.le_of_ble_eq_true rfl), fun q nq => ?_⟩
      have s1 := same_new (o := .tup [.int ((p - driftP l t n) % n), .int (((p - driftP l t n) % n + stepP l) % n), .str l.d]) nq
      have hq : upd Hc q (.tup [.int ((p - driftP l t n) % n), .int (((p - driftP l t n) % n + stepP l) % n), .str l.d]) q = some (.tup [.int (hopP t n p l).m, .int (hopP t n p l).g, .str (hopP t n p l).d]) := upd_same
      refine ⟨D, _, _, rfl, rfl, s1 _ _ hDc, szl' (by omega), ?_⟩
      refine ⟨_, _, _, rfl, upd_same, ?_, same_lst (sc.trans s1) nD⟩
      have zz : Fz (upd Hc q (.tup [.int ((p - driftP l t n) % n), .int (((p - driftP l t n) % n + stepP l) % n), .str l.d])) (upd (upd Hc q (.tup [.int ((p - driftP l t n) % n), .int (((p - driftP l t n) % n + stepP l) % n), .str l.d])) D (.lst (hs ++ [.ref q]))) := Fz.lst (s1 _ _ hDc)
      rw [take_snoc el, List.map_append]
      refine AllR.snoc (hhs.mono fun v h k => ?_) ⟨q, rfl, zz _ _ trivial hq⟩
      obtain ⟨q', e, hq'⟩ := k.same s1
      exact ⟨q', e, zz _ _ trivial hq'⟩
    · obtain ⟨y5, y6, hs, rfl, hDc, hhs, sc⟩ := hP
      rw [lu, List.take_length] at hhs
      dsimp only
      refine ret_go ⟨_, rfl, ?_⟩
      exact k D hs Hc sc nD hDc hhs

end
end K17
namespace K17
open PySem PySem.Spec PyProof.Rows L2 Rs
local macro_rules | `(tactic| walk_at "om") => `(tactic| first | omega | (dsimp only; omega))
local macro_rules | `(tactic| walk_at "side") => `(tactic| first | omega | (dsimp only; omega) | decide | (unfold CMul; omega) | (unfold CDiv; omega) | (unfold CPow; omega) | exact wide_div (b := 64) (by omega) (by omega) (by decide) (by decide))
local macro_rules | `(tactic| walk_at "hp") => `(tactic| first | assumption | exact upd_same)
local macro_rules | `(tactic| walk_at "sq") => `(tactic| first | assumption | exact SqL.of (by assumption) | exact SqL.of upd_same)
local macro_rules | `(tactic| walk_at "st") => `(tactic| first
  | refine ⟨_, rfl, ?_⟩
  | (refine ⟨_, _, rfl, rfl, And.intro ?side ?_⟩; (case side => walk_at "side"))
  | refine ⟨_, _, rfl, rfl, ?_⟩
  | (refine' ⟨_, _, _, _, rfl, rfl, SqL.of ?hp, ?atx, ?_⟩; (case hp => walk_at "hp"); (case atx => exact rfl))
  | (refine' ⟨_, _, _, _, rfl, rfl, ?hp, ?atx, ?_⟩; (case hp => walk_at "hp"); (case atx => exact rfl))
  | (refine' ⟨_, _, rfl, Or.inl ?sq, ?_⟩; (case sq => walk_at "sq"))
  | refine Or.inl ⟨_, rfl, ?_⟩
  | refine Or.inr ⟨_, rfl, ?_⟩)
local macro_rules | `(tactic| walk_at "evd") => `(tactic| first
  | exact evd_int
  | exact evd_str
  | exact evd_non
  | exact evd_bl
  | exact evd_nil
  | (refine evd_cons ?_ (fun _ => ?_) <;> walk_at "evd")
  | (refine evd_tup ?_ (Nat.le_of_ble_eq_true rfl); walk_at "evd"))

section
variable {P : Program} {w : World} {K : PySem.W.Frag} {mg : Str → Option Value} {base : Heap}
/-! a round's hops, done -/
def RowT (K : PySem.W.Frag) (H : Hp) (v : V) (ns : List Int) : Prop := ∃ p, v = .ref p ∧ SqT K H p (ns.map V.int)
theorem RowT.same {H H' : Hp} {v : V} {ns : List Int} (h : RowT K H v ns) (s : Same H H') : RowT K H' v ns := by
  obtain ⟨p, e, hp⟩ := h
  exact ⟨p, e, Same.seqT s hp⟩
theorem RowT.fz {H H' : Hp} {v : V} {ns : List Int} (h : RowT K H v ns) (k : Fz H H') : RowT K H' v ns := by
  obtain ⟨p, e, hp⟩ := h
  refine ⟨p, e, ?_⟩
  rcases hp with (hp | ⟨o, hp⟩) | hp
  · exact .inl (.inl (k _ _ trivial hp))
  · exact .inl (.inr ⟨o, k _ _ trivial hp⟩)
  · exact .inr hp
theorem AllR.set {α β : Type} {R : α → β → Prop} {as : List α} {bs : List β} {a : α} {b : β} (h : AllR R as bs) (z : R a b) : ∀ j : Nat, AllR R (as.set j a) (bs.set j b) := by
  induction h with
  | nil => intro j; exact .nil
  | cons y t ih =>
    intro j
    cases j with
    | zero => exact .cons z t
    | succ j => exact .cons y (ih j)
def doHop (cs after : List (List Int)) (h : HP) : List (List Int) := after.set h.g.toNat (if h.d = Str.ofString "put" then cs.getD h.m.toNat [] else addP (after.getD h.g.toNat []) (cs.getD h.m.toNat []))
def doHops (cs : List (List Int)) (hs : List HP) : List (List Int) := hs.foldl (doHop cs) cs
theorem addP_len {xs ys : List Int} (h : xs.length = ys.length) : (addP xs ys).length = xs.length := by
  unfold addP
  rw [List.length_zipWith]
  omega
theorem getD_of {α : Type} {l : List α} {i : Nat} {x d : α} (h : l[i]? = some x) : l.getD i d = x := by
  rw [List.getD_eq_getElem?_getD, h]
  rfl
theorem ixN_of {n j : Nat} (h : j < n) : ixN n (j : Int) = some j := by
  unfold ixN
  rw [if_pos (by omega), if_pos (by omega)]
  rfl
/-- cells stay as many, and as long -/
structure CellsI (n m : Nat) (cs : List (List Int)) : Prop where
  n : cs.length = n
  m : ∀ row ∈ cs, row.length = m
theorem CellsI.at_ {n m : Nat} {cs : List (List Int)} (h : CellsI n m cs) {i : Nat} (hi : i < n) : ∃ row, cs[i]? = some row ∧ row.length = m := by
  have : i < cs.length := by rw [h.n]; exact hi
  exact ⟨cs[i], List.getElem?_eq_getElem this, h.m _ (List.getElem_mem this)⟩
theorem CellsI.hop {n m : Nat} {cs after : List (List Int)} {h : HP} (a : CellsI n m cs) (b : CellsI n m after) (m1 : h.m.toNat < n) (g1 : h.g.toNat < n) : CellsI n m (doHop cs after h) := by
  obtain ⟨r1, e1, l1⟩ := a.at_ m1
  obtain ⟨r2, e2, l2⟩ := b.at_ g1
  refine ⟨by unfold doHop; rw [List.length_set]; exact b.n, fun row hr => ?_⟩
  unfold doHop at hr
  rcases List.mem_or_eq_of_mem_set hr with h1 | h1
  · exact b.m row h1
  · rw [h1, getD_of e1, getD_of e2]
    split
    · exact l1
    · rw [addP_len (l2.trans l1.symm)]
      exact l2
def spDoHops (K : PySem.W.Frag) : Sp := fun vs H Q _ => ∃ (c hv : Addr) (us hs : List V) (cs : List (List Int)) (hps : List HP) (n m : Nat), vs = [.ref c, .ref hv] ∧ H c = some (.lst us) ∧ AllR (RowT K H) us cs ∧ CellsI n m cs ∧ n ≤ 1000 ∧ m ≤ 1000 ∧ H hv = some (.lst hs) ∧ AllR (HopV H) hs hps ∧ (∀ h ∈ hps, 0 ≤ h.m ∧ h.m < n ∧ 0 ≤ h.g ∧ h.g < n) ∧
  ∀ r rs H', Same H H' → H r = none → H' r = some (.lst rs) → AllR (RowT K H') rs (doHops cs hps) → Q (.ref r) H'
theorem ok_do_hops (T : Txt K mg) : FnOk P w K mg base CX0 2 T.a_do_hops T.d_do_hops ["cells", "hops"] (spDoHops K) := by
  have G_added : FnOk P w K mg base CX0 1 T.a_added T.d_added ["own", "came"] (spAdded K) := ok_added T
  refine T.F_do_hops.ok sc_do_hops (fun vs H Q E h => ?_) (fun cdv A outer s H vs Q E hr h => ?_)
  · obtain ⟨c, hv, us, hs, cs, hps, n, m, rfl, _⟩ := h
    rfl
  · obtain ⟨c, hv, us, hs, cs, hps, n, m, rfl, hc, hus, ci, n1, m1, hh, hhs, hb, k⟩ := h
    have nd := sc_do_hops.nd
    refine ⟨_, (pss_cons (ps_set (i := 2) nd rfl (Or.inl rfl) (pe_callTy call_list_of (by rfl) T.z_list (by decide +kernel) (pa_cons (pv 0) pa_nil)))
    (pss_cons (ps_for PassesOwn.never rfl (pi_list (pv 1)) (pg_tup rfl (pgs_cons (pg_name (i := 3) nd rfl (Or.inl rfl)) (pgs_cons (pg_name (i := 4) nd rfl (Or.inl rfl)) (pgs_cons (pg_name (i := 5) nd rfl (Or.inl rfl)) pgs_nil))))
    (pss_one (ps_if (pt_cmpR op_eq (pv 5) pe_str (nomark _)) (pss_one (ps_asg (pe_ix ix_list (pv 0) (pv 3) (fun _ _ => rfl)) (pg_sub (pv 2) (pv 4) set_list))) (pss_one (ps_asg (pe_call G_added (hr.mono (by first | decide | omega)) (by rfl) T.m_added T.k_added T.b_added .nil pass0 (pa_cons (pe_ix ix_list (pv 2) (pv 4) (fun _ _ => rfl)) (pa_cons (pe_ix ix_list (pv 0) (pv 3) (fun _ _ => rfl)) pa_nil))) (pg_sub (pv 2) (pv 4) set_list))))))
    (pss_one (ps_ret (pv 2))))), ?_⟩
    have lu := hus.length
    have lh := hhs.length
    have cn := ci.n
    refine asg_go ?_
    refine ⟨_, rfl, c, us, rfl, .inl (SqL.of hc), fun r nr => ?_⟩
    have s0 := same_new (o := .lst us) nr
    have e0 : upd H r (.lst us) r = some (.lst us) := upd_same
    dsimp only [gName]
    refine ⟨_, rfl, hv, rfl, ⟨_, SqL.of (s0 _ _ hh)⟩, ?_⟩
    refine for_list (xs := hs) (fun i σ Hc => ∃ y3 y4 y5 rs, σ = [some (.ref c), some (.ref hv), some (.ref r), y3, y4, y5] ∧ Hc r = some (.lst rs) ∧ AllR (RowT K Hc) rs (doHops cs (hps.take i)) ∧ CellsI n m (doHops cs (hps.take i)) ∧ Same H Hc)
      ⟨none, none, none, us, rfl, e0, hus.mono fun v d h => h.same s0, ci, s0⟩ (fun i σ Hc _ hR => by obtain ⟨_, _, _, _, _, _, _, _, s⟩ := hR; exact SqL.of (s _ _ hh)) (fun i v σ Hc hv hP => ?_) (fun σ Hc hP => ?_)
    · obtain ⟨y3, y4, y5, rs, rfl, hr, hrs, cj, sc⟩ := hP
      obtain ⟨h, eh, q, rfl, hq⟩ := hhs.get hv
      obtain ⟨b1, b2, b3, b4⟩ := hb h (List.mem_of_getElem? eh)
      have step : doHops cs (hps.take (i + 1)) = doHop cs (doHops cs (hps.take i)) h := by
        rw [take_snoc eh]
        unfold doHops
        rw [List.foldl_append]
        rfl
      refine ⟨q, _, rfl, SqT.of (sc _ _ hq), rfl, _, _, rfl, _, _, rfl, _, _, rfl, rfl, ?_⟩
      dsimp only [gName]
      obtain ⟨mi, em⟩ : ∃ j : Nat, h.m = (j : Int) := ⟨h.m.toNat, by omega⟩
      obtain ⟨gi, eg⟩ : ∃ j : Nat, h.g = (j : Int) := ⟨h.g.toNat, by omega⟩
      have mn : mi < n := by omega
      have gn : gi < n := by omega
      have em' : h.m.toNat = mi := by omega
      have eg' : h.g.toNat = gi := by omega
      have husc := hus.mono fun v d h => h.same sc
      have lr := hrs.length
      rw [cj.n] at lr
      obtain ⟨uv, huv⟩ : ∃ v, us[mi]? = some v := ⟨_, List.getElem?_eq_getElem (by omega)⟩
      obtain ⟨rv, hrv⟩ : ∃ v, rs[gi]? = some v := ⟨_, List.getElem?_eq_getElem (by omega)⟩
      obtain ⟨row, erow, hrow⟩ := husc.get huv
      obtain ⟨own, eown, hown⟩ := hrs.get hrv
      have cj1 := CellsI.hop ci cj (by omega : h.m.toNat < n) (by omega : h.g.toNat < n)
      have nrc : ∀ {b : Addr} {o : HO}, H b = some o → b ≠ r := fun e => ne_of_none e nr
      refine ifs_go (tst_go ?_)
      refine ⟨_, rfl, rfl, _, rfl, ?_⟩
      rw [show decide (V.str h.d = V.str (Str.ofString "put")) = decide (h.d = Str.ofString "put") from decide_eq_decide.mpr ⟨fun e => by injection e, fun e => by rw [e]⟩]
      refine ifD (fun e => ?_) (fun e => ?_)
      · refine ⟨_, rfl, _, rfl, _, _, h.m, uv, rfl, rfl, SqL.of (sc _ _ hc), by rw [em]; exact atI_nat huv, ?_⟩
        refine ⟨_, rfl, _, rfl, r, rs, h.g, gi, rfl, rfl, hr, by rw [eg]; exact ixN_of (by omega), ?_⟩
        refine ⟨_, _, _, _, rfl, upd_same, ?_, by rw [step]; exact cj1, same_lst sc nr⟩
        rw [step]
        unfold doHop
        rw [if_pos e, em', eg', getD_of erow]
        exact (hrs.set hrow gi).mono fun v d h => h.fz (Fz.lst hr)
      · obtain ⟨pu, rfl, hpu⟩ := id hrow
        obtain ⟨pr, rfl, hpr⟩ := id hown
        have l1 := ci.m row (List.mem_of_getElem? erow)
        have l2 := cj.m own (List.mem_of_getElem? eown)
        refine ⟨_, rfl, _, rfl, _, _, h.g, .ref pr, rfl, rfl, SqL.of hr, by rw [eg]; exact atI_nat hrv, ?_⟩
        refine ⟨_, rfl, _, rfl, _, _, h.m, .ref pu, rfl, rfl, SqL.of (sc _ _ hc), by rw [em]; exact atI_nat huv, ?_⟩
        refine ⟨pr, pu, own, row, rfl, hpr, hpu, by omega, by omega, fun z H1 s1 nz hz => ?_⟩
        have hr1 := s1 _ _ hr
        refine ⟨_, rfl, _, rfl, r, rs, h.g, gi, rfl, rfl, hr1, by rw [eg]; exact ixN_of (by omega), ?_⟩
        refine ⟨_, _, _, _, rfl, upd_same, ?_, by rw [step]; exact cj1, same_lst (sc.trans s1) nr⟩
        rw [step]
        unfold doHop
        rw [if_neg e, em', eg', getD_of erow, getD_of eown]
        exact ((hrs.mono fun v d h => h.same s1).set (a := .ref z) (b := addP own row) ⟨z, rfl, SqT.of hz⟩ gi).mono fun v d h => h.fz (Fz.lst hr1)
    · obtain ⟨y3, y4, y5, rs, rfl, hr, hrs, cj, sc⟩ := hP
      rw [lh, List.take_length] at hrs
      dsimp only
      refine ret_go ?_
      exact ⟨_, rfl, k r rs Hc sc nr hr hrs⟩

end
end K17
namespace K17
open PySem PySem.Spec PyProof.Rows L2 Rs
local macro_rules | `(tactic| walk_at "om") => `(tactic| first | omega | (dsimp only; omega))
local macro_rules | `(tactic| walk_at "side") => `(tactic| first | omega | (dsimp only; omega) | decide | (unfold CMul; omega) | (unfold CDiv; omega) | (unfold CPow; omega) | exact wide_div (b := 64) (by omega) (by omega) (by decide) (by decide))
local macro_rules | `(tactic| walk_at "hp") => `(tactic| first | assumption | exact upd_same)
local macro_rules | `(tactic| walk_at "sq") => `(tactic| first | assumption | exact SqL.of (by assumption) | exact SqL.of upd_same)
local macro_rules | `(tactic| walk_at "st") => `(tactic| first
  | refine ⟨_, rfl, ?_⟩
  | (refine ⟨_, _, rfl, rfl, And.intro ?side ?_⟩; (case side => walk_at "side"))
  | refine ⟨_, _, rfl, rfl, ?_⟩
  | (refine' ⟨_, _, _, _, rfl, rfl, SqL.of ?hp, ?atx, ?_⟩; (case hp => walk_at "hp"); (case atx => exact rfl))
  | (refine' ⟨_, _, _, _, rfl, rfl, ?hp, ?atx, ?_⟩; (case hp => walk_at "hp"); (case atx => exact rfl))
  | (refine' ⟨_, _, rfl, Or.inl ?sq, ?_⟩; (case sq => walk_at "sq"))
  | refine Or.inl ⟨_, rfl, ?_⟩
  | refine Or.inr ⟨_, rfl, ?_⟩)
local macro_rules | `(tactic| walk_at "evd") => `(tactic| first
  | exact evd_int
  | exact evd_str
  | exact evd_non
  | exact evd_bl
  | exact evd_nil
  | (refine evd_cons ?_ (fun _ => ?_) <;> walk_at "evd")
  | (refine evd_tup ?_ (Nat.le_of_ble_eq_true rfl); walk_at "evd"))

section
variable {P : Program} {w : World} {K : PySem.W.Frag} {mg : Str → Option Value} {base : Heap}
/-! the rounds of a plan -/
def valP (d : BD) (n : Int) : Int := (d.t * n + d.q).fdiv d.c
def turnsP (ds : List BD) (n : Int) : List (BD × Int) := ds.flatMap fun d => (List.range (valP d n).toNat).map fun (t : Nat) => (d, Int.ofNat t)
def TurnV (CB CL CF : Addr) (H : Hp) (v : V) (z : BD × Int) : Prop := ∃ q u, v = .ref q ∧ H q = some (.tup [u, .int z.2]) ∧ BlockO CB CL CF H u z.1
theorem TurnV.same {CB CL CF : Addr} {H H' : Hp} {v : V} {z : BD × Int} (h : TurnV CB CL CF H v z) (s : Same H H') : TurnV CB CL CF H' v z := by
  obtain ⟨q, u, e, hq, hu⟩ := h
  exact ⟨q, u, e, s _ _ hq, hu.same s⟩
theorem TurnV.fz {CB CL CF : Addr} {H H' : Hp} {v : V} {z : BD × Int} (h : TurnV CB CL CF H v z) (s : Fz H H') : TurnV CB CL CF H' v z := by
  obtain ⟨q, u, e, hq, hu⟩ := h
  exact ⟨q, u, e, s _ _ trivial hq, hu.fz s⟩
theorem cm_of {t q c n : Int} (r : FormR t q c) : CMul t n := by
  have h : t.natAbs < 1000000000 := r.t1
  exact .inl ⟨by omega, by omega⟩
theorem val_bound {t q c n : Int} (r : FormR t q c) (n0 : 1 ≤ n) (n1 : n ≤ 1000) : -2 ^ 62 ≤ (t * n + q).fdiv c ∧ (t * n + q).fdiv c < 2 ^ 62 := by
  have h1 : t.natAbs < 1000000000 := r.t1
  have h2 : q.natAbs < 1000000000 := r.q1
  have c1 := r.c1
  have hp : (t * n).natAbs ≤ 1000000000 * 1000 := by
    rw [Int.natAbs_mul]
    exact Nat.mul_le_mul (by omega) (by omega)
  have a1 : -(2 ^ 62 : Int) ≤ t * n + q := by omega
  have a2 : t * n + q < 2 ^ 62 := by omega
  rw [Int.fdiv_eq_ediv_of_nonneg _ (by omega)]
  constructor
  · refine Int.le_ediv_of_mul_le (by omega) (Int.le_trans ?_ a1)
    have := Int.mul_le_mul_of_nonneg_left c1 (show (0 : Int) ≤ 2 ^ 62 by decide)
    omega
  · refine Int.ediv_lt_of_lt_mul (by omega) (Int.lt_of_lt_of_le a2 ?_)
    have := Int.mul_le_mul_of_nonneg_left c1 (show (0 : Int) ≤ 2 ^ 62 by decide)
    omega
theorem turns_le {ds : List BD} {n : Int} {i : Nat} : (turnsP (ds.take i) n).length ≤ (turnsP ds n).length := by
  have e : turnsP ds n = turnsP (ds.take i) n ++ turnsP (ds.drop i) n := by
    unfold turnsP
    rw [← List.flatMap_append, List.take_append_drop]
  rw [e, List.length_append]
  omega
def spTurnsOf (K : PySem.W.Frag) (CP CB CL CF : Addr) : Sp := fun vs H Q _ => ∃ (u : V) (ds : List BD) (n : Int), vs = [u, .int n] ∧ PlanE K CP CB CL CF H u ds ∧ 1 ≤ n ∧ n ≤ 1000 ∧ (∀ d ∈ ds, BI d) ∧ (turnsP ds n).length ≤ 10000 ∧
  ∀ D ts H', Same H H' → H D = none → H' D = some (.lst ts) → AllR (TurnV CB CL CF H') ts (turnsP ds n) → Q (.ref D) H'
theorem ok_turns_of (T : Txt K mg) : FnOk P w K mg base CX0 2 T.a_turns_of T.d_turns_of ["plan", "n"] (spTurnsOf K T.c_Plan T.c_Block T.c_Lane T.c_Form) := by
  have R_call : FnR P w K mg base CX0 1 T.a_Form___call__ (spFCall T.c_Form) := fnR (ok_fcall T) T.b_Form___call__
  refine T.F_turns_of.ok sc_turns_of (fun vs H Q E h => ?_) (fun cdv A outer s H vs Q E hr h => ?_)
  · obtain ⟨u, ds, n, rfl, _⟩ := h
    rfl
  · obtain ⟨u, ds, n, rfl, ⟨x, dx, tp, bs, dd, rfl, hx, ht, hbs⟩, n0, n1, bis, tl, k⟩ := h
    have nd := sc_turns_of.nd
    refine ⟨_, (pss_one (ps_ret (pe_lc2 (own := [("block", 2), ("t", 3)]) (vs1 := [3]) (g := (gName 2)) (g1 := (gName 3)) (by rfl) nd (by exact (pi_tup (pe_fld (pv 0) rfl))) (blkOk_by (N := ["plan", "n", "block", "t"]) (sc := defScope s_turns_of) (own := [("block", 2), ("t", 3)]) (by decide +kernel)) (by decide) (fun _ _ _ _ _ => by exact (pg_name (i := 2) nd rfl (Or.inl rfl))) (fun _ _ _ _ _ => by exact pts_nil) (fun _ _ _ _ _ => by exact (pi_range1 (by rfl) T.z_range (pa_cons (pe_callF (K := K) rfl (pv 2) T.M_Form___call__ T.fn_Form___call__ R_call (hr.mono (by decide)) pass0 (pa_cons (pv 1) pa_nil)) pa_nil))) (fun _ _ _ _ _ => by exact (pg_name (i := 3) nd rfl (Or.inl rfl))) (fun _ _ _ _ _ => by exact pts_nil) (fun _ _ _ _ _ => by exact (pe_tup (pa_cons (pv 2) (pa_cons (pv 3) pa_nil))))))), ?_⟩
    refine ret_go ?_
    have ht' := ht.t
    refine ⟨_, rfl, x, _, dx, _, _, rfl, hx, T.C_Plan, T.n_Plan_blocks, rfl, tp, rfl, ⟨bs, ht'⟩, fun D nD => ?_⟩
    have lb := hbs.length
    refine walk_go (walk_tup (xs := bs)) (fun i Hc => ∃ ts, Hc D = some (.lst ts) ∧ AllR (TurnV T.c_Block T.c_Lane T.c_Form Hc) ts (turnsP (ds.take i) n) ∧ Same H Hc) ⟨[], upd_same, .nil, same_new nD⟩ (fun i Hc _ hP => by obtain ⟨_, _, _, s⟩ := hP; exact Same.seqT s ht') (fun i v Hc H' hi hP hy => ?_) (fun Hc hP => ?_)
    · obtain ⟨ts, hD, hts, sc⟩ := hP
      obtain ⟨rfl, hv⟩ := hy
      obtain ⟨d, ed, hd⟩ := hbs.get hv
      have hd' := hd.same sc
      obtain ⟨z, dz, yf, tz, us, rfl, hz, ⟨df, hf⟩, _, _, di⟩ := id hd'
      have r := di.r.r
      have cm : CMul d.t n := cm_of r
      obtain ⟨v0, v1⟩ := val_bound r n0 n1
      refine ⟨rfl, ?_⟩
      refine ⟨_, rfl, z, T.c_Block, dz, _, _, rfl, hz, T.C_Block, T.n_Block_rounds, rfl, yf, df, _, rfl, hf, _, rfl, ⟨df, _, hf⟩, yf, d.t, d.q, d.c, n, rfl, ⟨df, hf⟩, cm, r.c1, by have := r.c2; omega, ?_⟩
      refine ⟨_, rfl, v0, v1, ?_⟩
      have base_ : turnsP (ds.take (i + 1)) n = turnsP (ds.take i) n ++ (List.range (valP d n).toNat).map fun (t : Nat) => (d, Int.ofNat t) := by
        unfold turnsP
        rw [take_snoc ed, List.flatMap_append, List.flatMap_cons, List.flatMap_nil, List.append_nil]
      refine walk_go walk_range (fun j Hc2 => ∃ ts2, Hc2 D = some (.lst ts2) ∧ AllR (TurnV T.c_Block T.c_Lane T.c_Form Hc2) ts2 (turnsP (ds.take i) n ++ (List.range j).map fun (t : Nat) => (d, Int.ofNat t)) ∧ Same H Hc2) ⟨ts, hD, by rw [List.range_zero, List.map_nil, List.append_nil]; exact hts, sc⟩ (fun _ _ _ _ => trivial) (fun j v2 Hc2 H2 hj hP hy => ?_) (fun Hc2 hP => ?_)
      · obtain ⟨ts2, hD2, hts2, sc2⟩ := hP
        obtain ⟨rfl, rfl⟩ := hy
        refine ⟨rfl, ?_⟩
        have l2 := hts2.length
        have tb := turns_le (ds := ds) (n := n) (i := i + 1)
        rw [base_, List.length_append, List.length_map, List.length_range] at tb
        rw [List.length_append, List.length_map, List.length_range] at l2
        have hj : j < (valP d n).toNat := hj
        refine ⟨_, rfl, _, rfl, szL (Nat.le_of_ble_eq_true rfl), fun q nq => ?_⟩
        have s1 := same_new (o := .tup [.ref z, .int (0 + (j : Int))]) nq
        have hq : upd H2 q (.tup [.ref z, .int (0 + (j : Int))]) q = some (.tup [.ref z, .int (Int.ofNat j)]) := by
          rw [upd_same, Int.zero_add]
          rfl
        have hD3 := s1 _ _ hD2
        refine ⟨ts2, hD3, szl' (by omega), ts2 ++ [.ref q], upd_same, ?_, same_lst (sc2.trans s1) nD⟩
        rw [List.range_succ, List.map_append, ← List.append_assoc]
        have zz : Fz (upd H2 q (.tup [.ref z, .int (0 + (j : Int))])) (upd (upd H2 q (.tup [.ref z, .int (0 + (j : Int))])) D (.lst (ts2 ++ [.ref q]))) := Fz.lst hD3
        refine AllR.snoc (hts2.mono fun v d h => (h.same s1).fz zz) ⟨q, .ref z, rfl, zz _ _ trivial hq, ((hd.same sc2).same s1).fz zz⟩
      · obtain ⟨ts2, hD2, hts2, sc2⟩ := hP
        refine ⟨ts2, hD2, ?_, sc2⟩
        rw [base_]
        exact hts2
    · obtain ⟨ts, hD, hts, sc⟩ := hP
      rw [lb, List.take_length] at hts
      exact k D ts _ sc nD hD hts

end
end K17
namespace K17
open PySem PySem.Spec PyProof.Rows L2 Rs
local macro_rules | `(tactic| walk_at "om") => `(tactic| first | omega | (dsimp only; omega))
local macro_rules | `(tactic| walk_at "side") => `(tactic| first | omega | (dsimp only; omega) | decide | (unfold CMul; omega) | (unfold CDiv; omega) | (unfold CPow; omega) | exact wide_div (b := 64) (by omega) (by omega) (by decide) (by decide))
local macro_rules | `(tactic| walk_at "hp") => `(tactic| first | assumption | exact upd_same)
local macro_rules | `(tactic| walk_at "sq") => `(tactic| first | assumption | exact SqL.of (by assumption) | exact SqL.of upd_same)
local macro_rules | `(tactic| walk_at "st") => `(tactic| first
  | refine ⟨_, rfl, ?_⟩
  | (refine ⟨_, _, rfl, rfl, And.intro ?side ?_⟩; (case side => walk_at "side"))
  | refine ⟨_, _, rfl, rfl, ?_⟩
  | (refine' ⟨_, _, _, _, rfl, rfl, SqL.of ?hp, ?atx, ?_⟩; (case hp => walk_at "hp"); (case atx => exact rfl))
  | (refine' ⟨_, _, _, _, rfl, rfl, ?hp, ?atx, ?_⟩; (case hp => walk_at "hp"); (case atx => exact rfl))
  | (refine' ⟨_, _, rfl, Or.inl ?sq, ?_⟩; (case sq => walk_at "sq"))
  | refine Or.inl ⟨_, rfl, ?_⟩
  | refine Or.inr ⟨_, rfl, ?_⟩)
local macro_rules | `(tactic| walk_at "evd") => `(tactic| first
  | exact evd_int
  | exact evd_str
  | exact evd_non
  | exact evd_bl
  | exact evd_nil
  | (refine evd_cons ?_ (fun _ => ?_) <;> walk_at "evd")
  | (refine evd_tup ?_ (Nat.le_of_ble_eq_true rfl); walk_at "evd"))

section
variable {P : Program} {w : World} {K : PySem.W.Frag} {mg : Str → Option Value} {base : Heap}
/-! rows of any kind: lists or tuples of lists or tuples of integers; their sums -/
def SqA (K : PySem.W.Frag) (H : Hp) (a : Addr) (xs : List V) : Prop := SqL K H a xs ∨ SqT K H a xs
def RowG (K : PySem.W.Frag) (H : Hp) (v : V) (ns : List Int) : Prop := ∃ p, v = .ref p ∧ SqA K H p (ns.map V.int)
theorem SqA.same {H H' : Hp} {a : Addr} {xs : List V} (h : SqA K H a xs) (s : Same H H') : SqA K H' a xs := h.imp (fun h => s.seq h) fun h => Same.seqT s h
theorem RowG.same {H H' : Hp} {v : V} {ns : List Int} (h : RowG K H v ns) (s : Same H H') : RowG K H' v ns := by
  obtain ⟨p, e, hp⟩ := h
  exact ⟨p, e, hp.same s⟩
structure RowsI (n m : Nat) (rs : List (List Int)) : Prop where
  many : rs.length = n
  long : ∀ r ∈ rs, r.length = m
  some_ : 0 < n
def sumP (rs : List (List Int)) (i : Nat) : Int := (rs.map fun r => r.getD i 0).sum
def sumsP (rs : List (List Int)) (m : Nat) : List Int := (List.range m).map (sumP rs)
theorem ix_any {H : Hp} {a : Addr} {us : List V} {i : Int} {v : V} {Q : VK} (h : SqA K H a us) (e : atI us i = some v) (q : Q v H) : rIx K (.ref a) (.int i) H Q :=
  h.elim (fun h => .inl ⟨a, us, i, v, rfl, rfl, h, e, q⟩) fun h => .inr (.inl ⟨a, us, i, v, rfl, rfl, h, e, q⟩)
theorem iseq_go {H : Hp} {a : Addr} {us : List V} {i : Nat} {σ : L2.St} {R : It → Hp → Prop} (e : σ[i]? = some (some (.ref a))) (h : SqA K H a us) (k : ∀ (J : It) (G : Hp → Prop), Walk J us.length G (YAt us) → (∀ H', Same H H' → G H') → R J H) : Rs.iSeqA K (tVar i) σ H R :=
  ⟨_, e, a, rfl, h.elim (fun h => .inl ⟨us, h, k _ _ walk_list fun _ s => s.seq h⟩) fun h => .inr ⟨us, h, k _ _ walk_tup fun _ s => Same.seqT s h⟩⟩
def spSumsOf (K : PySem.W.Frag) : Sp := fun vs H Q _ => ∃ (a : Addr) (us : List V) (rs : List (List Int)) (n m : Nat), vs = [.ref a] ∧ SqA K H a us ∧ AllR (RowG K H) us rs ∧ RowsI n m rs ∧ n ≤ 1000 ∧ m ≤ 1000 ∧
  ∀ p H', Same H H' → H p = none → H' p = some (.tup ((sumsP rs m).map V.int)) → Q (.ref p) H'
theorem ok_sums_of (T : Txt K mg) : FnOk P w K mg base CX0 1 T.a_sums_of T.d_sums_of ["rows"] (spSumsOf K) := by
  refine T.F_sums_of.ok sc_sums_of (fun vs H Q E h => ?_) (fun cdv A outer s H vs Q E hr h => ?_)
  · obtain ⟨a, us, rs, n, m, rfl, _⟩ := h
    rfl
  · obtain ⟨a, us, rs, n, m, rfl, ha, hus, ri, n1, m1, k⟩ := h
    have nd := sc_sums_of.nd
    refine ⟨_, (pss_one (ps_ret (pe_callTy call_tuple_of (by rfl) T.z_tuple (by decide +kernel) (pa_cons (pe_lc (own := [("at", 2)]) (g := (gName 2)) (by rfl) nd (pi_range1 (by rfl) T.z_range (pa_cons (pe_callB call_len_seq (by rfl) T.z_len (by decide +kernel) (pa_cons (pe_ix ix_seq (pv 0) pe_int (fun _ _ => rfl)) pa_nil)) pa_nil)) (blkOk_by (N := ["rows", "row", "at"]) (sc := defScope s_sums_of) (own := [("at", 2)]) (by decide +kernel)) (fun _ _ _ _ _ => by exact (pg_name (i := 2) nd rfl (Or.inr rfl))) (fun _ _ _ _ _ => by exact pts_nil) (fun _ _ _ _ _ => by exact (pe_callB (cr_sumK (K := K) rfl rfl) (by rfl) T.z_sum (by decide +kernel) (pa_cons (by exact (pe_lc (own := [("row", 1)]) (g := (gName 1)) (by rfl) nd (by exact (pi_seqAK (K := K) rfl (pv 0))) (blkOk_by (N := ["rows", "row", "at"]) (own := [("row", 1)]) (by simp only [relabel_eq, compEnvC]; dsimp only [cxOf, envOfC]; decide +kernel)) (fun _ _ _ _ _ => by exact (pg_name (i := 1) nd rfl (Or.inl rfl))) (fun _ _ _ _ _ => by exact pts_nil) (fun _ _ _ _ _ => by exact (pe_ix (ix_seqK (K := K) rfl) (pv 1) (pv 2) (fun _ _ => rfl))))) pa_nil)))) pa_nil)))), ?_⟩
    have lu := hus.length
    have rn := ri.many
    have rn0 := ri.some_
    obtain ⟨v0, hv0⟩ : ∃ v, us[0]? = some v := ⟨_, List.getElem?_eq_getElem (by omega)⟩
    obtain ⟨r0, er0, p0, rfl, hp0⟩ := hus.get hv0
    have l0 := ri.long r0 (List.mem_of_getElem? er0)
    refine ret_go ?_
    refine ⟨_, rfl, ix_any ha (atI_nat (j := 0) hv0) ⟨p0, _, rfl, hp0, ?_⟩⟩
    rw [List.length_map, l0]
    refine ⟨(m : Int), rfl, by omega, by omega, fun D nD => ?_⟩
    refine lc_range (lo := 0) (fun i Hc => Hc D = some (.lst (((List.range i).map (sumP rs)).map V.int)) ∧ Same H Hc) ⟨upd_same, same_new nD⟩ (fun i Hc hi hP => ?_) (fun Hc hP => ?_)
    · obtain ⟨hD, sc⟩ := hP
      refine ⟨rfl, _, rfl, a, rfl, ?_⟩
      rcases ha with ha | ha
      · refine .inl ⟨us, sc.seq ha, fun E nE => ?_⟩
        have gs : ∀ H', Same Hc H' → SqL K H' a us := fun H' s' => (sc.trans s').seq ha
        have wk := walk_list (K := K) (a := a) (xs := us)
        refine lc_it wk (fun j Hd => Hd E = some (.lst (((rs.take j).map fun r => r.getD i 0).map V.int)) ∧ Same Hc Hd) ⟨by rw [upd_same, List.take_zero]; rfl, same_new nE⟩ (fun j Hd _ hP => gs _ hP.2) (fun j v Hd H1 hj hP hy => ?_) (fun Hd hP => ?_)
        · obtain ⟨hE, sd⟩ := hP
          obtain ⟨rfl, hv⟩ := hy
          obtain ⟨r, er, pr, rfl, hpr⟩ := hus.get hv
          have lr := ri.long r (List.mem_of_getElem? er)
          have hi : i < m := by omega
          have ei : r[i]? = some (r.getD i 0) := by
            rw [getD_of (List.getElem?_eq_getElem (by omega))]
            exact List.getElem?_eq_getElem (by omega)
          refine ⟨rfl, _, rfl, _, rfl, ?_⟩
          rw [show (0 : Int) + (i : Int) = (i : Int) from Int.zero_add _]
          refine ix_any ((hpr.same sc).same sd) (atI_nat (j := i) (v := .int (r.getD i 0)) (by rw [List.getElem?_map, ei]; rfl)) ?_
          refine ⟨_, hE, szl' (by rw [List.length_map, List.length_map, List.length_take]; omega), ?_, same_lst sd nE⟩
          rw [upd_same, take_snoc er, List.map_append, List.map_append]
          rfl
        · obtain ⟨hE, sd⟩ := hP
          rw [lu, List.take_length] at hE
          refine ⟨E, _, rfl, SqL.of hE, ?_⟩
          refine ⟨_, sd _ _ hD, szl' (by rw [List.length_map, List.length_map, List.length_range]; omega), ?_, same_lst (sc.trans sd) nD⟩
          rw [upd_same, List.range_succ, List.map_append, List.map_append]
          rfl
      · refine .inr ⟨us, Same.seqT sc ha, fun E nE => ?_⟩
        have gs : ∀ H', Same Hc H' → SqT K H' a us := fun H' s' => Same.seqT (sc.trans s') ha
        have wk := walk_tup (K := K) (a := a) (xs := us)
        refine lc_it wk (fun j Hd => Hd E = some (.lst (((rs.take j).map fun r => r.getD i 0).map V.int)) ∧ Same Hc Hd) ⟨by rw [upd_same, List.take_zero]; rfl, same_new nE⟩ (fun j Hd _ hP => gs _ hP.2) (fun j v Hd H1 hj hP hy => ?_) (fun Hd hP => ?_)
        · obtain ⟨hE, sd⟩ := hP
          obtain ⟨rfl, hv⟩ := hy
          obtain ⟨r, er, pr, rfl, hpr⟩ := hus.get hv
          have lr := ri.long r (List.mem_of_getElem? er)
          have hi : i < m := by omega
          have ei : r[i]? = some (r.getD i 0) := by
            rw [getD_of (List.getElem?_eq_getElem (by omega))]
            exact List.getElem?_eq_getElem (by omega)
          refine ⟨rfl, _, rfl, _, rfl, ?_⟩
          rw [show (0 : Int) + (i : Int) = (i : Int) from Int.zero_add _]
          refine ix_any ((hpr.same sc).same sd) (atI_nat (j := i) (v := .int (r.getD i 0)) (by rw [List.getElem?_map, ei]; rfl)) ?_
          refine ⟨_, hE, szl' (by rw [List.length_map, List.length_map, List.length_take]; omega), ?_, same_lst sd nE⟩
          rw [upd_same, take_snoc er, List.map_append, List.map_append]
          rfl
        · obtain ⟨hE, sd⟩ := hP
          rw [lu, List.take_length] at hE
          refine ⟨E, _, rfl, SqL.of hE, ?_⟩
          refine ⟨_, sd _ _ hD, szl' (by rw [List.length_map, List.length_map, List.length_range]; omega), ?_, same_lst (sc.trans sd) nD⟩
          rw [upd_same, List.range_succ, List.map_append, List.map_append]
          rfl
    · obtain ⟨hD, sc⟩ := hP
      refine ⟨D, _, rfl, .inl ⟨SqL.of hD, fun p np => ?_⟩⟩
      exact k p _ (sc.trans (same_new np)) (sc.free np) upd_same

end
end K17
namespace K17
open PySem PySem.Spec PyProof.Rows L2 Rs
local macro_rules | `(tactic| walk_at "om") => `(tactic| first | omega | (dsimp only; omega))
local macro_rules | `(tactic| walk_at "side") => `(tactic| first | omega | (dsimp only; omega) | decide | (unfold CMul; omega) | (unfold CDiv; omega) | (unfold CPow; omega) | exact wide_div (b := 64) (by omega) (by omega) (by decide) (by decide))
local macro_rules | `(tactic| walk_at "hp") => `(tactic| first | assumption | exact upd_same)
local macro_rules | `(tactic| walk_at "sq") => `(tactic| first | assumption | exact SqL.of (by assumption) | exact SqL.of upd_same)
local macro_rules | `(tactic| walk_at "st") => `(tactic| first
  | refine ⟨_, rfl, ?_⟩
  | (refine ⟨_, _, rfl, rfl, And.intro ?side ?_⟩; (case side => walk_at "side"))
  | refine ⟨_, _, rfl, rfl, ?_⟩
  | (refine' ⟨_, _, _, _, rfl, rfl, SqL.of ?hp, ?atx, ?_⟩; (case hp => walk_at "hp"); (case atx => exact rfl))
  | (refine' ⟨_, _, _, _, rfl, rfl, ?hp, ?atx, ?_⟩; (case hp => walk_at "hp"); (case atx => exact rfl))
  | (refine' ⟨_, _, rfl, Or.inl ?sq, ?_⟩; (case sq => walk_at "sq"))
  | refine Or.inl ⟨_, rfl, ?_⟩
  | refine Or.inr ⟨_, rfl, ?_⟩)
local macro_rules | `(tactic| walk_at "evd") => `(tactic| first
  | exact evd_int
  | exact evd_str
  | exact evd_non
  | exact evd_bl
  | exact evd_nil
  | (refine evd_cons ?_ (fun _ => ?_) <;> walk_at "evd")
  | (refine evd_tup ?_ (Nat.le_of_ble_eq_true rfl); walk_at "evd"))

section
variable {P : Program} {w : World} {K : PySem.W.Frag} {mg : Str → Option Value} {base : Heap}
/-! whether all rows are the sums -/
theorem dp_ints {H : Hp} : ∀ {ns : List Int}, DpAll K H (ns.map V.int) (ns.map PyData.int)
  | [] => .nil
  | n :: ns => .cons (.int n) dp_ints
theorem eqv_ints : ∀ (ns ms : List Int), PyData.eqvAll (ns.map PyData.int) (ms.map PyData.int) = decide (ns = ms)
  | [], [] => rfl
  | [], _ :: _ => rfl
  | _ :: _, [] => rfl
  | n :: ns, m :: ms => by
    show (PyData.eqv (.int n) (.int m) && PyData.eqvAll (ns.map PyData.int) (ms.map PyData.int)) = _
    rw [eqv_ints ns ms, show PyData.eqv (.int n) (.int m) = (n == m) from rfl]
    by_cases h : n = m
    · subst h
      by_cases h2 : ns = ms <;> simp [h2]
    · simp [h]
theorem eqv_tints {ns ms : List Int} : PyData.eqv (.tuple (ns.map PyData.int)) (.tuple (ms.map PyData.int)) = decide (ns = ms) := by
  rw [← eqv_ints]
  rfl
theorem ok_tints {ns : List Int} : okD 1 (.tuple (ns.map PyData.int)) := okD.tuple fun d hd => by
  obtain ⟨n, _, rfl⟩ := List.mem_map.mp hd
  exact ⟨rfl, Nat.le_refl _⟩
def spAreAll (K : PySem.W.Frag) : Sp := fun vs H Q _ => ∃ (a b : Addr) (us : List V) (rs : List (List Int)) (ss : List Int), vs = [.ref a, .ref b] ∧ SqT K H a us ∧ AllR (RowT K H) us rs ∧ SqT K H b (ss.map V.int) ∧ us.length ≤ 1000 ∧ ∀ H', Same H H' → Q (.bl (rs.all fun r => decide (r = ss))) H'
theorem ok_are_all (T : Txt K mg) : FnOk P w K mg base CX0 1 T.a_are_all T.d_are_all ["rows", "sums"] (spAreAll K) := by
  refine T.F_are_all.ok sc_are_all (fun vs H Q E h => ?_) (fun cdv A outer s H vs Q E hr h => ?_)
  · obtain ⟨a, b, us, rs, ss, rfl, _⟩ := h
    rfl
  · obtain ⟨a, b, us, rs, ss, rfl, ha, hus, hb, ul, k⟩ := h
    have nd := sc_are_all.nd
    refine ⟨_, (pss_one (ps_ret (pe_callB (cr_all rfl) (by rfl) T.z_all (by decide +kernel) (pa_cons (pe_lc (own := [("row", 2)]) (g := (gName 2)) (by rfl) nd (pi_tup (pv 0)) (blkOk_by (N := ["rows", "sums", "row"]) (sc := defScope s_are_all) (own := [("row", 2)]) (by decide +kernel)) (fun _ _ _ _ _ => by exact (pg_name (i := 2) nd rfl (Or.inl rfl))) (fun _ _ _ _ _ => by exact pts_nil) (fun _ _ _ _ _ => by exact (pe_cmpR (op_eqDK (K := K) rfl hr.units) (pv 2) (pv 1) (nomark _)))) pa_nil)))), ?_⟩
    have lu := hus.length
    refine ret_go ?_
    refine ⟨_, rfl, a, rfl, ⟨us, ha⟩, fun D nD => ?_⟩
    refine lc_tup (xs := us) (fun i Hc => Hc D = some (.lst (((rs.take i).map fun r => decide (r = ss)).map V.bl)) ∧ Same H Hc) ⟨by rw [upd_same, List.take_zero]; rfl, same_new nD⟩ (fun i Hc _ hP => Same.seqT hP.2 ha) (fun i v Hc hv hP => ?_) (fun Hc hP => ?_)
    · obtain ⟨hD, sc⟩ := hP
      obtain ⟨r, er, p, rfl, hp⟩ := hus.get hv
      have hi := (List.getElem?_eq_some_iff.mp hv).1
      refine ⟨rfl, _, rfl, _, rfl, .tuple (r.map PyData.int), .tuple (ss.map PyData.int), .tup (Same.seqT sc hp) dp_ints, .tup (Same.seqT sc hb) dp_ints, ok_tints.shaped (by decide), ok_tints.shaped (by decide), ?_⟩
      rw [eqv_tints]
      refine ⟨_, hD, szl' (by rw [List.length_map, List.length_map, List.length_take]; omega), ?_, same_lst sc nD⟩
      rw [upd_same, take_snoc er, List.map_append, List.map_append]
      rfl
    · obtain ⟨hD, sc⟩ := hP
      rw [lu, List.take_length] at hD
      refine ⟨D, _, rfl, SqL.of hD, ?_⟩
      rw [List.all_map]
      exact k _ sc

end
end K17
namespace K17
open PySem PySem.Spec PyProof.Rows L2 Rs
local macro_rules | `(tactic| walk_at "om") => `(tactic| first | omega | (dsimp only; omega))
local macro_rules | `(tactic| walk_at "side") => `(tactic| first | omega | (dsimp only; omega) | decide | (unfold CMul; omega) | (unfold CDiv; omega) | (unfold CPow; omega) | exact wide_div (b := 64) (by omega) (by omega) (by decide) (by decide))
local macro_rules | `(tactic| walk_at "hp") => `(tactic| first | assumption | exact upd_same)
local macro_rules | `(tactic| walk_at "sq") => `(tactic| first | assumption | exact SqL.of (by assumption) | exact SqL.of upd_same)
local macro_rules | `(tactic| walk_at "st") => `(tactic| first
  | refine ⟨_, rfl, ?_⟩
  | (refine ⟨_, _, rfl, rfl, And.intro ?side ?_⟩; (case side => walk_at "side"))
  | refine ⟨_, _, rfl, rfl, ?_⟩
  | (refine' ⟨_, _, _, _, rfl, rfl, SqL.of ?hp, ?atx, ?_⟩; (case hp => walk_at "hp"); (case atx => exact rfl))
  | (refine' ⟨_, _, _, _, rfl, rfl, ?hp, ?atx, ?_⟩; (case hp => walk_at "hp"); (case atx => exact rfl))
  | (refine' ⟨_, _, rfl, Or.inl ?sq, ?_⟩; (case sq => walk_at "sq"))
  | refine Or.inl ⟨_, rfl, ?_⟩
  | refine Or.inr ⟨_, rfl, ?_⟩)
local macro_rules | `(tactic| walk_at "evd") => `(tactic| first
  | exact evd_int
  | exact evd_str
  | exact evd_non
  | exact evd_bl
  | exact evd_nil
  | (refine evd_cons ?_ (fun _ => ?_) <;> walk_at "evd")
  | (refine evd_tup ?_ (Nat.le_of_ble_eq_true rfl); walk_at "evd"))

section
variable {P : Program} {w : World} {K : PySem.W.Frag} {mg : Str → Option Value} {base : Heap}
/-! rows of columns -/
def ColV (K : PySem.W.Frag) (H : Hp) (v : V) (cs : List (List Int)) : Prop := ∃ p us, v = .ref p ∧ H p = some (.lst us) ∧ AllR (RowT K H) us cs
def rowP (cols : List (List (List Int))) (i : Nat) : List Int := cols.flatMap fun c => c.getD i []
def rowsP (cols : List (List (List Int))) (n : Nat) : List (List Int) := (List.range n).map (rowP cols)
theorem pre_le {cols : List (List (List Int))} {i j : Nat} : ((cols.take j).flatMap fun c => c.getD i []).length ≤ (rowP cols i).length := by
  have e : rowP cols i = ((cols.take j).flatMap fun c => c.getD i []) ++ (cols.drop j).flatMap fun c => c.getD i [] := by
    unfold rowP
    rw [← List.flatMap_append, List.take_append_drop]
  rw [e, List.length_append]
  omega
def spRowsOf (K : PySem.W.Frag) : Sp := fun vs H Q _ => ∃ (a : Addr) (us : List V) (cols : List (List (List Int))) (n : Nat), vs = [.ref a] ∧ H a = some (.lst us) ∧ AllR (ColV K H) us cols ∧ cols.length = n ∧ (∀ c ∈ cols, c.length = n) ∧ n ≤ 1000 ∧ (∀ i, (rowP cols i).length ≤ 10000) ∧
  ∀ p ws H', Same H H' → H p = none → H' p = some (.tup ws) → AllR (RowT K H') ws (rowsP cols n) → Q (.ref p) H'
theorem ok_rows_of (T : Txt K mg) : FnOk P w K mg base CX0 1 T.a_rows_of T.d_rows_of ["columns"] (spRowsOf K) := by
  refine T.F_rows_of.ok sc_rows_of (fun vs H Q E h => ?_) (fun cdv A outer s H vs Q E hr h => ?_)
  · obtain ⟨a, us, cols, n, rfl, _⟩ := h
    rfl
  · obtain ⟨a, us, cols, n, rfl, ha, hus, cn, cl, n1, tot, k⟩ := h
    have nd := sc_rows_of.nd
    refine ⟨_, (pss_one (ps_ret (pe_callTy call_tuple_of (by rfl) T.z_tuple (by decide +kernel) (pa_cons (pe_lc (own := [("machine", 3)]) (g := (gName 3)) (by rfl) nd (pi_range1 (by rfl) T.z_range (pa_cons (pe_callB call_len_seq (by rfl) T.z_len (by decide +kernel) (pa_cons (pv 0) pa_nil)) pa_nil)) (blkOk_by (N := ["columns", "column", "number", "machine"]) (sc := defScope s_rows_of) (own := [("machine", 3)]) (by decide +kernel)) (fun _ _ _ _ _ => by exact (pg_name (i := 3) nd rfl (Or.inr rfl))) (fun _ _ _ _ _ => by exact pts_nil) (fun _ _ _ _ _ => by exact (pe_callTy (call_tuple_ofK (K := K) rfl) (by rfl) T.z_tuple (by decide +kernel) (pa_cons (by exact (pe_lc2 (own := [("column", 1), ("number", 2)]) (vs1 := [2]) (g := (gName 1)) (g1 := (gName 2)) (by rfl) nd (by exact (pi_listK (K := K) rfl (pv 0))) (blkOk_by (N := ["columns", "column", "number", "machine"]) (own := [("column", 1), ("number", 2)]) (by simp only [relabel_eq, compEnvC]; dsimp only [cxOf, envOfC]; decide +kernel)) (by decide) (fun _ _ _ _ _ => by exact (pg_name (i := 1) nd rfl (Or.inl rfl))) (fun _ _ _ _ _ => by exact pts_nil) (fun _ _ _ _ _ => by exact (pi_tupK (K := K) rfl (pe_ix (ix_listK (K := K) rfl) (pv 1) (pv 3) (fun _ _ => rfl)))) (fun _ _ _ _ _ => by exact (pg_name (i := 2) nd rfl (Or.inl rfl))) (fun _ _ _ _ _ => by exact pts_nil) (fun _ _ _ _ _ => by exact (pv 2)))) pa_nil)))) pa_nil)))), ?_⟩
    have lu := hus.length
    refine ret_go ?_
    refine ⟨_, rfl, a, us, rfl, .inl (SqL.of ha), ?_⟩
    rw [lu, cn]
    refine ⟨(n : Int), rfl, by omega, by omega, fun D nD => ?_⟩
    refine lc_range (lo := 0) (fun i Hc => ∃ ws, Hc D = some (.lst ws) ∧ AllR (RowT K Hc) ws ((List.range i).map (rowP cols)) ∧ Same H Hc) ⟨[], upd_same, .nil, same_new nD⟩ (fun i Hc hi hP => ?_) (fun Hc hP => ?_)
    · obtain ⟨ws, hD, hws, sc⟩ := hP
      have hi : i < n := by omega
      have lw := hws.length
      rw [List.length_map, List.length_range] at lw
      have ti := tot i
      refine ⟨rfl, _, rfl, a, rfl, ⟨us, SqL.of (sc _ _ ha)⟩, fun E nE => ?_⟩
      refine walk_go (walk_list (xs := us)) (fun j Hd => Hd E = some (.lst (((cols.take j).flatMap fun c => c.getD i []).map V.int)) ∧ Same Hc Hd) ⟨by rw [upd_same, List.take_zero]; rfl, same_new nE⟩ (fun j Hd _ hP => SqL.of (hP.2 _ _ (sc _ _ ha))) (fun j v Hd Hd' hj hP hy => ?_) (fun Hd hP => ?_)
      · obtain ⟨hE, sd⟩ := hP
        obtain ⟨rfl, hv⟩ := hy
        obtain ⟨c, ec, pc, uc, rfl, hpc, huc⟩ := hus.get hv
        have lc := cl c (List.mem_of_getElem? ec)
        have luc := huc.length
        obtain ⟨w, hw⟩ : ∃ w, uc[i]? = some w := ⟨_, List.getElem?_eq_getElem (by omega)⟩
        obtain ⟨row, erow, pr, rfl, hpr⟩ := huc.get hw
        have hpr' := Same.seqT (sc.trans sd) hpr
        have st : (cols.take (j + 1)).flatMap (fun c => c.getD i []) = (cols.take j).flatMap (fun c => c.getD i []) ++ row := by
          rw [take_snoc ec, List.flatMap_append, List.flatMap_cons, List.flatMap_nil, List.append_nil, getD_of erow]
        have tj := pre_le (cols := cols) (i := i) (j := j + 1)
        rw [st, List.length_append] at tj
        refine ⟨rfl, _, rfl, _, rfl, _, _, _, .ref pr, rfl, rfl, SqL.of (sd _ _ (sc _ _ hpc)), by rw [Int.zero_add]; exact atI_nat hw, pr, rfl, ⟨_, hpr'⟩, ?_⟩
        refine walk_go (walk_tup (xs := row.map V.int)) (fun q He => He E = some (.lst (((cols.take j).flatMap (fun c => c.getD i []) ++ row.take q).map V.int)) ∧ Same Hc He) ⟨by rw [List.take_zero, List.append_nil]; exact hE, sd⟩ (fun q He _ hP => Same.seqT (sc.trans hP.2) hpr) (fun q v2 He He' hq hP hy => ?_) (fun He hP => ?_)
        · obtain ⟨hE2, se⟩ := hP
          obtain ⟨rfl, hv2⟩ := hy
          rw [List.length_map] at hq
          obtain ⟨z, ez, rfl⟩ : ∃ z, row[q]? = some z ∧ v2 = .int z := by
            rw [List.getElem?_map, List.getElem?_eq_getElem hq] at hv2
            cases hv2
            exact ⟨_, List.getElem?_eq_getElem hq, rfl⟩
          refine ⟨rfl, _, rfl, _, hE2, szl' (by rw [List.length_map, List.length_append, List.length_take]; omega), ?_, same_lst se nE⟩
          rw [upd_same, take_snoc ez]
          simp only [List.map_append, List.map_cons, List.map_nil, List.append_assoc]
        · obtain ⟨hE2, se⟩ := hP
          rw [List.length_map, List.take_length] at hE2
          refine ⟨?_, se⟩
          rw [st]
          exact hE2
      · obtain ⟨hE, sd⟩ := hP
        rw [lu, List.take_length] at hE
        refine ⟨E, _, rfl, .inl ⟨SqL.of hE, fun q nq => ?_⟩⟩
        have s1 := same_new (o := .tup ((rowP cols i).map V.int)) nq
        have hD1 := s1 _ _ (sd _ _ hD)
        have hq : upd Hd q (.tup ((rowP cols i).map V.int)) q = some (.tup ((rowP cols i).map V.int)) := upd_same
        refine ⟨ws, hD1, szl' (by omega), ws ++ [.ref q], upd_same, ?_, same_lst (sc.trans (sd.trans s1)) nD⟩
        rw [List.range_succ, List.map_append]
        have zz : Fz (upd Hd q (.tup ((rowP cols i).map V.int))) (upd (upd Hd q (.tup ((rowP cols i).map V.int))) D (.lst (ws ++ [.ref q]))) := Fz.lst hD1
        exact AllR.snoc (hws.mono fun v r h => ((h.same sd).same s1).fz zz) ⟨q, rfl, SqT.of (zz _ _ trivial hq)⟩
    · obtain ⟨ws, hD, hws, sc⟩ := hP
      refine ⟨D, _, rfl, .inl ⟨SqL.of hD, fun p np => ?_⟩⟩
      have s1 := same_new (o := .tup ws) np
      exact k p ws _ (sc.trans s1) (sc.free np) upd_same (hws.mono fun v r h => h.same s1)

end
end K17
namespace K17
open PySem PySem.Spec PyProof.Rows L2 Rs
local macro_rules | `(tactic| walk_at "om") => `(tactic| first | omega | (dsimp only; omega))
local macro_rules | `(tactic| walk_at "side") => `(tactic| first | omega | (dsimp only; omega) | decide | (unfold CMul; omega) | (unfold CDiv; omega) | (unfold CPow; omega) | exact wide_div (b := 64) (by omega) (by omega) (by decide) (by decide))
local macro_rules | `(tactic| walk_at "hp") => `(tactic| first | assumption | exact upd_same)
local macro_rules | `(tactic| walk_at "sq") => `(tactic| first | assumption | exact SqL.of (by assumption) | exact SqL.of upd_same)
local macro_rules | `(tactic| walk_at "st") => `(tactic| first
  | refine ⟨_, rfl, ?_⟩
  | (refine ⟨_, _, rfl, rfl, And.intro ?side ?_⟩; (case side => walk_at "side"))
  | refine ⟨_, _, rfl, rfl, ?_⟩
  | (refine' ⟨_, _, _, _, rfl, rfl, SqL.of ?hp, ?atx, ?_⟩; (case hp => walk_at "hp"); (case atx => exact rfl))
  | (refine' ⟨_, _, _, _, rfl, rfl, ?hp, ?atx, ?_⟩; (case hp => walk_at "hp"); (case atx => exact rfl))
  | (refine' ⟨_, _, rfl, Or.inl ?sq, ?_⟩; (case sq => walk_at "sq"))
  | refine Or.inl ⟨_, rfl, ?_⟩
  | refine Or.inr ⟨_, rfl, ?_⟩)
local macro_rules | `(tactic| walk_at "evd") => `(tactic| first
  | exact evd_int
  | exact evd_str
  | exact evd_non
  | exact evd_bl
  | exact evd_nil
  | (refine evd_cons ?_ (fun _ => ?_) <;> walk_at "evd")
  | (refine evd_tup ?_ (Nat.le_of_ble_eq_true rfl); walk_at "evd"))

section
variable {P : Program} {w : World} {K : PySem.W.Frag} {mg : Str → Option Value} {base : Heap}
/-! where the pieces of a row begin and end; columns -/
def loP (m n i : Nat) : Nat := i * m / n
def PairV (H : Hp) (v : V) (z : Nat × Nat) : Prop := ∃ q, v = .ref q ∧ H q = some (.tup [.int (z.1 : Int), .int (z.2 : Int)])
theorem PairV.same {H H' : Hp} {v : V} {z : Nat × Nat} (h : PairV H v z) (s : Same H H') : PairV H' v z := by
  obtain ⟨q, e, hq⟩ := h
  exact ⟨q, e, s _ _ hq⟩
theorem PairV.fz {H H' : Hp} {v : V} {z : Nat × Nat} (h : PairV H v z) (s : Fz H H') : PairV H' v z := by
  obtain ⟨q, e, hq⟩ := h
  exact ⟨q, e, s _ _ trivial hq⟩
def cutsP (m n : Nat) : List (Nat × Nat) := (List.range n).map fun i => (loP m n i, loP m n (i + 1))
def spCuts (K : PySem.W.Frag) : Sp := fun vs H Q _ => ∃ (m n : Nat), vs = [.int (m : Int), .int (n : Int)] ∧ 0 < n ∧ n ≤ 1000 ∧
  ∀ p ws H', Same H H' → H p = none → H' p = some (.tup ws) → AllR (PairV H') ws (cutsP m n) → Q (.ref p) H'
theorem ok_cuts (T : Txt K mg) : FnOk P w K mg base CX0 1 T.a_cuts T.d_cuts ["length", "n"] (spCuts K) := by
  refine T.F_cuts.ok sc_cuts (fun vs H Q E h => ?_) (fun cdv A outer s H vs Q E hr h => ?_)
  · obtain ⟨m, n, rfl, _⟩ := h
    rfl
  · obtain ⟨m, n, rfl, n0, n1, k⟩ := h
    have nd := sc_cuts.nd
    refine ⟨_, (pss_one (ps_ret (pe_callTy call_tuple_of (by rfl) T.z_tuple (by decide +kernel) (pa_cons (pe_lc (own := [("piece", 2)]) (g := (gName 2)) (by rfl) nd (pi_range1 (by rfl) T.z_range (pa_cons (pv 1) pa_nil)) (blkOk_by (N := ["length", "n", "piece"]) (sc := defScope s_cuts) (own := [("piece", 2)]) (by decide +kernel)) (fun _ _ _ _ _ => by exact (pg_name (i := 2) nd rfl (Or.inl rfl))) (fun _ _ _ _ _ => by exact pts_nil) (fun _ _ _ _ _ => by exact (pe_tup (pa_cons (pe_op op_fdiv (pe_op op_mul (pv 2) (pv 0)) (pv 1)) (pa_cons (pe_op op_fdiv (pe_op op_mul (pe_op op_add (pv 2) pe_int) (pv 0)) (pv 1)) pa_nil))))) pa_nil)))), ?_⟩
    refine ret_go ?_
    refine ⟨_, rfl, (n : Int), rfl, by omega, by omega, fun D nD => ?_⟩
    refine lc_range (lo := 0) (fun i Hc => ∃ ws, Hc D = some (.lst ws) ∧ AllR (PairV Hc) ws ((List.range i).map fun i => (loP m n i, loP m n (i + 1))) ∧ Same H Hc) ⟨[], upd_same, .nil, same_new nD⟩ (fun i Hc hi hP => ?_) (fun Hc hP => ?_)
    · obtain ⟨ws, hD, hws, sc⟩ := hP
      have lw := hws.length
      rw [List.length_map, List.length_range] at lw
      refine ⟨rfl, ?_⟩
      repeat walk_at "st"
      refine ⟨szL (Nat.le_of_ble_eq_true rfl), fun q nq => ?_⟩
      have hn : D ≠ q := ne_of_none hD nq
      have e1 : (0 + (i : Int)) * (m : Int) / (n : Int) = ((loP m n i : Nat) : Int) := by
        unfold loP
        rw [Int.zero_add]
        push_cast
        rfl
      have e2 : (0 + (i : Int) + 1) * (m : Int) / (n : Int) = ((loP m n (i + 1) : Nat) : Int) := by
        unfold loP
        rw [Int.zero_add]
        push_cast
        rfl
      dsimp only
      rw [e1, e2]
      have s1 := same_new (o := .tup [.int ((loP m n i : Nat) : Int), .int ((loP m n (i + 1) : Nat) : Int)]) nq
      generalize hH1 : upd Hc q (.tup [.int ((loP m n i : Nat) : Int), .int ((loP m n (i + 1) : Nat) : Int)]) = H1 at s1
      have h1 : H1 q = some (.tup [.int ((loP m n i : Nat) : Int), .int ((loP m n (i + 1) : Nat) : Int)]) := by
        rw [← hH1]
        exact upd_same
      have hD1 := s1 _ _ hD
      have sL := same_lst (o := .lst (ws ++ [.ref q])) (sc.trans s1) nD
      refine ⟨ws, hD1, szl (by omega), ws ++ [.ref q], upd_same, ?_, sL⟩
      rw [range_succ_map]
      refine AllR.append ((hws.mono fun v r h => h.same s1).mono fun v r h => ?_) ?_
      · exact h.fz (Fz.lst hD1)
      · exact .cons ⟨q, rfl, by rw [upd_ne hn.symm]; exact h1⟩ .nil
    · obtain ⟨ws, hD, hws, sc⟩ := hP
      refine ⟨D, _, rfl, .inl ⟨SqL.of hD, fun p np => ?_⟩⟩
      have s1 := same_new (o := .tup ws) np
      exact k p ws _ (sc.trans s1) (sc.free np) upd_same (hws.mono fun v r h => h.same s1)
theorem loP_le {m n i : Nat} (h : i ≤ n) : loP m n i ≤ m := by
  unfold loP
  rcases Nat.eq_zero_or_pos n with e | e
  · subst e
    rw [Nat.div_zero]
    exact Nat.zero_le _
  · exact Nat.div_le_of_le_mul (Nat.mul_le_mul_right m h)
theorem loP_mono {m n i : Nat} : loP m n i ≤ loP m n (i + 1) := by
  unfold loP
  exact Nat.div_le_div_right (Nat.mul_le_mul_right m (Nat.le_succ i))
theorem cuts_in {m n i : Nat} {z : Nat × Nat} (h : (cutsP m n)[i]? = some z) (_n0 : 0 < n) : z.1 ≤ z.2 ∧ z.2 ≤ m := by
  unfold cutsP at h
  rw [List.getElem?_map] at h
  rcases Nat.lt_or_ge i n with hi | hi
  · rw [List.getElem?_range hi] at h
    cases h
    exact ⟨loP_mono, loP_le hi⟩
  · rw [List.getElem?_eq_none (by rw [List.length_range]; exact hi)] at h
    cases h
theorem cut_mid {xs : List V} {lo hi : Nat} (h : lo ≤ hi ∧ hi ≤ xs.length) : cutV xs (some (lo : Int)) (some (hi : Int)) = (xs.take hi).drop lo := by
  unfold cutV
  rw [HT.sIx_nat, HT.sIx_nat, Nat.min_eq_left h.2, Nat.min_eq_left (Nat.le_trans h.1 h.2), List.drop_take]
theorem ColV.same {K : PySem.W.Frag} {H H' : Hp} {v : V} {c : List (List Int)} (h : ColV K H v c) (s : Same H H') : ColV K H' v c := by
  obtain ⟨p, us, e, hp, hu⟩ := h
  exact ⟨p, us, e, s _ _ hp, hu.mono fun v r h => h.same s⟩
theorem ColV.at_ {K : PySem.W.Frag} {H : Hp} {v : V} {c : List (List Int)} {D : Addr} {o o' : List V} (h : ColV K H v c) (hD : H D = some (.lst o)) (n : v ≠ .ref D) : ColV K (upd H D (.lst o')) v c := by
  obtain ⟨p, us, rfl, hp, hu⟩ := h
  have zz : Fz H (upd H D (.lst o')) := Fz.lst hD
  exact ⟨p, us, rfl, by rw [upd_ne (fun e => n (by rw [e]))]; exact hp, hu.mono fun v r h => h.fz zz⟩
def colP (rs : List (List Int)) (z : Nat × Nat) : List (List Int) := rs.map fun r => (r.take z.2).drop z.1
def spColumnsOf (K : PySem.W.Frag) : Sp := fun vs H Q _ => ∃ (a : Addr) (us : List V) (rs : List (List Int)) (n m : Nat), vs = [.ref a] ∧ SqA K H a us ∧ AllR (RowG K H) us rs ∧ RowsI n m rs ∧ n ≤ 1000 ∧ m ≤ 1000 ∧
  ∀ p ws H', Same H H' → H p = none → H' p = some (.lst ws) → AllR (ColV K H') ws ((cutsP m n).map (colP rs)) → Q (.ref p) H'
theorem ok_columns_of (T : Txt K mg) : FnOk P w K mg base CX0 2 T.a_columns_of T.d_columns_of ["rows"] (spColumnsOf K) := by
  have G_cuts : FnOk P w K mg base CX0 1 T.a_cuts T.d_cuts ["length", "n"] (spCuts K) := ok_cuts T
  refine T.F_columns_of.ok sc_columns_of (fun vs H Q E h => ?_) (fun cdv A outer s H vs Q E hr h => ?_)
  · obtain ⟨a, us, rs, n, m, rfl, _⟩ := h
    rfl
  · obtain ⟨a, us, rs, n, m, rfl, ha, hus, ri, n1, m1, k⟩ := h
    have nd := sc_columns_of.nd
    refine ⟨_, (pss_one (ps_ret (pe_lc (own := [("low", 2), ("high", 3)]) (g := (gTup K 2 (gCons (gName 2) (gCons (gName 3) gNil)))) (by rfl) nd (pi_tup (pe_call G_cuts (hr.mono (by first | decide | omega)) (by rfl) T.m_cuts T.k_cuts T.b_cuts .nil pass0 (pa_cons (pe_callB call_len_seq (by rfl) T.z_len (by decide +kernel) (pa_cons (pe_ix ix_seq (pv 0) pe_int (fun _ _ => rfl)) pa_nil)) (pa_cons (pe_callB call_len_seq (by rfl) T.z_len (by decide +kernel) (pa_cons (pv 0) pa_nil)) pa_nil)))) (blkOk_by (N := ["rows", "row", "low", "high"]) (sc := defScope s_columns_of) (own := [("low", 2), ("high", 3)]) (by decide +kernel)) (fun _ _ _ _ _ => by exact (pg_tup rfl (pgs_cons (pg_name (i := 2) nd rfl (Or.inr rfl)) (pgs_cons (pg_name (i := 3) nd rfl (Or.inr rfl)) pgs_nil)))) (fun _ _ _ _ _ => by exact pts_nil) (fun _ _ _ _ _ => by exact (by exact (pe_lc (own := [("row", 1)]) (g := (gName 1)) (by rfl) nd (by exact (pi_seqAK (K := K) rfl (pv 0))) (blkOk_by (N := ["rows", "row", "low", "high"]) (own := [("row", 1)]) (by simp only [relabel_eq, compEnvC]; dsimp only [cxOf, envOfC]; decide +kernel)) (fun _ _ _ _ _ => by exact (pg_name (i := 1) nd rfl (Or.inl rfl))) (fun _ _ _ _ _ => by exact pts_nil) (fun _ _ _ _ _ => by exact (pe_callTy (call_tuple_ofK (K := K) rfl) (by rfl) T.z_tuple (by decide +kernel) (pa_cons (pe_slice (sl_seqK (K := K) rfl) (pv 1) (po_some (pv 2)) (po_some (pv 3))) pa_nil))))))))), ?_⟩
    have lu := hus.length
    have rn := ri.many
    have rn0 := ri.some_
    obtain ⟨v0, hv0⟩ : ∃ v, us[0]? = some v := ⟨_, List.getElem?_eq_getElem (by omega)⟩
    obtain ⟨r0, er0, p0, rfl, hp0⟩ := hus.get hv0
    have l0 := ri.long r0 (List.mem_of_getElem? er0)
    refine ret_go ?_
    refine ⟨_, rfl, ix_any ha (atI_nat (j := 0) hv0) ⟨p0, _, rfl, hp0, ?_⟩⟩
    rw [List.length_map, l0]
    refine ⟨_, rfl, a, us, rfl, ha, ?_⟩
    rw [lu, rn]
    refine ⟨m, n, rfl, by omega, n1, fun pc wc Hc0 s0 npc hpc hwc => ⟨pc, rfl, ⟨_, SqT.of hpc⟩, fun D nD => ?_⟩⟩
    have lwc := hwc.length
    refine lc_tup (xs := wc) (fun i Hc => ∃ ws, Hc D = some (.lst ws) ∧ AllR (fun v c => ColV K Hc v c ∧ v ≠ .ref D) ws (((cutsP m n).take i).map (colP rs)) ∧ Same Hc0 Hc) ⟨[], upd_same, .nil, same_new nD⟩ (fun i Hc _ hP => by obtain ⟨_, _, _, sc⟩ := hP; exact SqT.of (sc _ _ hpc)) (fun i v Hc hv hP => ?_) (fun Hc hP => ?_)
    · obtain ⟨ws, hD, hws, sc⟩ := hP
      obtain ⟨z, ez, qz, rfl, hqz⟩ := hwc.get hv
      have lw := hws.length
      rw [List.length_map, List.length_take] at lw
      have lcu : (cutsP m n).length = n := by
        unfold cutsP
        rw [List.length_map, List.length_range]
      obtain ⟨z1, z2⟩ := cuts_in ez (by omega)
      refine ⟨qz, _, rfl, SqT.of (sc _ _ hqz), rfl, ⟨_, _, rfl, _, _, rfl, rfl, rfl, ?_⟩⟩
      refine ⟨_, rfl, a, rfl, ?_⟩
      rcases ha with ha | ha
      · refine .inl ⟨us, sc.seq (s0.seq ha), fun F nF => ?_⟩
        have gs : ∀ H', Same Hc H' → SqL K H' a us := fun H' s' => (sc.trans s').seq (s0.seq ha)
        have wk := walk_list (K := K) (a := a) (xs := us)
        refine lc_it wk (fun j Hd => ∃ xs, Hd F = some (.lst xs) ∧ AllR (RowT K Hd) xs ((rs.take j).map fun r => (r.take z.2).drop z.1) ∧ Same Hc Hd) ⟨[], upd_same, .nil, same_new nF⟩ (fun j Hd _ hP => gs _ (by obtain ⟨_, _, _, sd⟩ := hP; exact sd)) (fun j v H1 Hd hj hP hy => ?_) (fun Hd hP => ?_)
        · obtain ⟨xs, hF, hxs, sd⟩ := hP
          obtain ⟨rfl, hv⟩ := hy
          obtain ⟨r, er, pr, rfl, hpr⟩ := hus.get hv
          have lr := ri.long r (List.mem_of_getElem? er)
          have lx := hxs.length
          rw [List.length_map, List.length_take] at lx
          have eC : cutV (r.map V.int) (some ((z.1 : Nat) : Int)) (some ((z.2 : Nat) : Int)) = ((r.take z.2).drop z.1).map V.int := by
            rw [cut_mid (by rw [List.length_map]; omega)]
            rw [List.map_drop, List.map_take]
          have fin : ∀ (t : Addr) (He : Hp), Same Hd He → SqT K He t (((r.take z.2).drop z.1).map V.int) → ∃ acc, He F = some (.lst acc) ∧ acc.length < sizeLine ∧ ∃ xs, upd He F (.lst (acc ++ [.ref t])) F = some (.lst xs) ∧ AllR (RowT K (upd He F (.lst (acc ++ [.ref t])))) xs ((rs.take (j + 1)).map fun r => (r.take z.2).drop z.1) ∧ Same Hc (upd He F (.lst (acc ++ [.ref t]))) := by
            intro t He se ht
            have hF1 := se _ _ hF
            have zz : Fz He (upd He F (.lst (xs ++ [.ref t]))) := Fz.lst hF1
            refine ⟨xs, hF1, szl' (by omega), xs ++ [.ref t], upd_same, ?_, same_lst (sd.trans se) nF⟩
            rw [take_snoc er, List.map_append]
            refine AllR.snoc (hxs.mono fun v r h => (h.same se).fz zz) ⟨t, rfl, ?_⟩
            have h1 : RowT K He (.ref t) ((r.take z.2).drop z.1) := ⟨t, rfl, ht⟩
            obtain ⟨t', e', h2⟩ := h1.fz zz
            cases e'
            exact h2
          have hp1 := ((hpr.same s0).same sc).same sd
          refine ⟨rfl, _, rfl, _, rfl, _, rfl, _, rfl, _, rfl, ?_⟩
          rcases hp1 with hp1 | hp1
          · refine .inl ⟨pr, _, rfl, hp1, fun t nt => ⟨t, _, rfl, .inl ⟨SqL.of upd_same, fun q nq => ?_⟩⟩⟩
            rw [eC] at nq ⊢
            exact fin q _ ((same_new nt).trans (same_new nq)) (SqT.of upd_same)
          · refine .inr ⟨pr, _, rfl, hp1, fun hw => ⟨pr, _, rfl, .inr ⟨hp1, ?_⟩⟩, fun _ t nt => ⟨t, _, rfl, .inr ⟨SqT.of upd_same, ?_⟩⟩⟩
            · refine fin pr _ (Same.refl _) ?_
              have eW : cutV (r.map V.int) (some ((z.1 : Nat) : Int)) (some ((z.2 : Nat) : Int)) = r.map V.int := by
                unfold cutV
                rw [hw.1, hw.2, List.drop_zero, Nat.sub_zero, List.take_length]
              rw [← eC, eW]
              exact hp1
            · rw [eC]
              exact fin t _ (same_new nt) (SqT.of upd_same)
        · obtain ⟨xs, hF, hxs, sd⟩ := hP
          rw [lu, List.take_length] at hxs
          have hD1 := sd _ _ hD
          have zz : Fz Hd (upd Hd D (.lst (ws ++ [.ref F]))) := Fz.lst hD1
          refine ⟨ws, hD1, szl' (by omega), ws ++ [.ref F], upd_same, ?_, same_lst (sc.trans sd) nD⟩
          rw [take_snoc ez, List.map_append]
          have hn : F ≠ D := by
            rintro rfl
            rw [nF] at hD
            cases hD
          exact AllR.snoc (hws.mono fun v r h => ⟨(h.1.same sd).at_ hD1 h.2, h.2⟩) ⟨⟨F, xs, rfl, by rw [upd_ne hn]; exact hF, hxs.mono fun v r h => h.fz zz⟩, fun e => hn (by cases e; rfl)⟩
      · refine .inr ⟨us, Same.seqT sc (Same.seqT s0 ha), fun F nF => ?_⟩
        have gs : ∀ H', Same Hc H' → SqT K H' a us := fun H' s' => Same.seqT (sc.trans s') (Same.seqT s0 ha)
        have wk := walk_tup (K := K) (a := a) (xs := us)
        refine lc_it wk (fun j Hd => ∃ xs, Hd F = some (.lst xs) ∧ AllR (RowT K Hd) xs ((rs.take j).map fun r => (r.take z.2).drop z.1) ∧ Same Hc Hd) ⟨[], upd_same, .nil, same_new nF⟩ (fun j Hd _ hP => gs _ (by obtain ⟨_, _, _, sd⟩ := hP; exact sd)) (fun j v H1 Hd hj hP hy => ?_) (fun Hd hP => ?_)
        · obtain ⟨xs, hF, hxs, sd⟩ := hP
          obtain ⟨rfl, hv⟩ := hy
          obtain ⟨r, er, pr, rfl, hpr⟩ := hus.get hv
          have lr := ri.long r (List.mem_of_getElem? er)
          have lx := hxs.length
          rw [List.length_map, List.length_take] at lx
          have eC : cutV (r.map V.int) (some ((z.1 : Nat) : Int)) (some ((z.2 : Nat) : Int)) = ((r.take z.2).drop z.1).map V.int := by
            rw [cut_mid (by rw [List.length_map]; omega)]
            rw [List.map_drop, List.map_take]
          have fin : ∀ (t : Addr) (He : Hp), Same Hd He → SqT K He t (((r.take z.2).drop z.1).map V.int) → ∃ acc, He F = some (.lst acc) ∧ acc.length < sizeLine ∧ ∃ xs, upd He F (.lst (acc ++ [.ref t])) F = some (.lst xs) ∧ AllR (RowT K (upd He F (.lst (acc ++ [.ref t])))) xs ((rs.take (j + 1)).map fun r => (r.take z.2).drop z.1) ∧ Same Hc (upd He F (.lst (acc ++ [.ref t]))) := by
            intro t He se ht
            have hF1 := se _ _ hF
            have zz : Fz He (upd He F (.lst (xs ++ [.ref t]))) := Fz.lst hF1
            refine ⟨xs, hF1, szl' (by omega), xs ++ [.ref t], upd_same, ?_, same_lst (sd.trans se) nF⟩
            rw [take_snoc er, List.map_append]
            refine AllR.snoc (hxs.mono fun v r h => (h.same se).fz zz) ⟨t, rfl, ?_⟩
            have h1 : RowT K He (.ref t) ((r.take z.2).drop z.1) := ⟨t, rfl, ht⟩
            obtain ⟨t', e', h2⟩ := h1.fz zz
            cases e'
            exact h2
          have hp1 := ((hpr.same s0).same sc).same sd
          refine ⟨rfl, _, rfl, _, rfl, _, rfl, _, rfl, _, rfl, ?_⟩
          rcases hp1 with hp1 | hp1
          · refine .inl ⟨pr, _, rfl, hp1, fun t nt => ⟨t, _, rfl, .inl ⟨SqL.of upd_same, fun q nq => ?_⟩⟩⟩
            rw [eC] at nq ⊢
            exact fin q _ ((same_new nt).trans (same_new nq)) (SqT.of upd_same)
          · refine .inr ⟨pr, _, rfl, hp1, fun hw => ⟨pr, _, rfl, .inr ⟨hp1, ?_⟩⟩, fun _ t nt => ⟨t, _, rfl, .inr ⟨SqT.of upd_same, ?_⟩⟩⟩
            · refine fin pr _ (Same.refl _) ?_
              have eW : cutV (r.map V.int) (some ((z.1 : Nat) : Int)) (some ((z.2 : Nat) : Int)) = r.map V.int := by
                unfold cutV
                rw [hw.1, hw.2, List.drop_zero, Nat.sub_zero, List.take_length]
              rw [← eC, eW]
              exact hp1
            · rw [eC]
              exact fin t _ (same_new nt) (SqT.of upd_same)
        · obtain ⟨xs, hF, hxs, sd⟩ := hP
          rw [lu, List.take_length] at hxs
          have hD1 := sd _ _ hD
          have zz : Fz Hd (upd Hd D (.lst (ws ++ [.ref F]))) := Fz.lst hD1
          refine ⟨ws, hD1, szl' (by omega), ws ++ [.ref F], upd_same, ?_, same_lst (sc.trans sd) nD⟩
          rw [take_snoc ez, List.map_append]
          have hn : F ≠ D := by
            rintro rfl
            rw [nF] at hD
            cases hD
          exact AllR.snoc (hws.mono fun v r h => ⟨(h.1.same sd).at_ hD1 h.2, h.2⟩) ⟨⟨F, xs, rfl, by rw [upd_ne hn]; exact hF, hxs.mono fun v r h => h.fz zz⟩, fun e => hn (by cases e; rfl)⟩
    · obtain ⟨ws, hD, hws, sc⟩ := hP
      rw [lwc, List.take_length] at hws
      exact k D ws _ (s0.trans sc) (s0.free (nD)) hD (hws.mono fun v r h => h.1)

end
end K17
namespace K17
open PySem PySem.Spec PyProof.Rows L2 Rs
local macro_rules | `(tactic| walk_at "om") => `(tactic| first | omega | (dsimp only; omega))
local macro_rules | `(tactic| walk_at "side") => `(tactic| first | omega | (dsimp only; omega) | decide | (unfold CMul; omega) | (unfold CDiv; omega) | (unfold CPow; omega) | exact wide_div (b := 64) (by omega) (by omega) (by decide) (by decide))
local macro_rules | `(tactic| walk_at "hp") => `(tactic| first | assumption | exact upd_same)
local macro_rules | `(tactic| walk_at "sq") => `(tactic| first | assumption | exact SqL.of (by assumption) | exact SqL.of upd_same)
local macro_rules | `(tactic| walk_at "st") => `(tactic| first
  | refine ⟨_, rfl, ?_⟩
  | (refine ⟨_, _, rfl, rfl, And.intro ?side ?_⟩; (case side => walk_at "side"))
  | refine ⟨_, _, rfl, rfl, ?_⟩
  | (refine' ⟨_, _, _, _, rfl, rfl, SqL.of ?hp, ?atx, ?_⟩; (case hp => walk_at "hp"); (case atx => exact rfl))
  | (refine' ⟨_, _, _, _, rfl, rfl, ?hp, ?atx, ?_⟩; (case hp => walk_at "hp"); (case atx => exact rfl))
  | (refine' ⟨_, _, rfl, Or.inl ?sq, ?_⟩; (case sq => walk_at "sq"))
  | refine Or.inl ⟨_, rfl, ?_⟩
  | refine Or.inr ⟨_, rfl, ?_⟩)
local macro_rules | `(tactic| walk_at "evd") => `(tactic| first
  | exact evd_int
  | exact evd_str
  | exact evd_non
  | exact evd_bl
  | exact evd_nil
  | (refine evd_cons ?_ (fun _ => ?_) <;> walk_at "evd")
  | (refine evd_tup ?_ (Nat.le_of_ble_eq_true rfl); walk_at "evd"))

section
variable {P : Program} {w : World} {K : PySem.W.Frag} {mg : Str → Option Value} {base : Heap}
/-! how many numbers each machine hands on -/
def sizeP (m n i : Nat) : Int := (loP m n (i + 1) : Int) - (loP m n i : Int)
def sizesP (m n : Nat) : List Int := (List.range n).map (sizeP m n)
def sentL (m n : Nat) (t : Int) (sent : List Int) (l : LD) : List Int := (List.range n).map fun (i : Nat) => sent.getD i 0 + sizeP m n (((i : Int) + driftP l t n) % n).toNat
def sentT (m n : Nat) (sent : List Int) (z : BD × Int) : List Int := z.1.ls.foldl (sentL m n z.2) sent
def sentP (m n : Nat) (zs : List (BD × Int)) : List Int := zs.foldl (sentT m n) (List.replicate n 0)
theorem set_mid {α : Type} {xs ys : List α} {q : Nat} {x : α} (h : q < ys.length) (e : xs[q]? = some x) : (xs.take q ++ ys.drop q).set q x = xs.take (q + 1) ++ ys.drop (q + 1) := by
  have hx := (List.getElem?_eq_some_iff.mp e).1
  have hl : (xs.take q).length = q := by
    rw [List.length_take]
    omega
  rw [List.set_append_right _ _ (by omega), hl, Nat.sub_self, List.drop_eq_getElem_cons h, List.set_cons_zero, take_snoc e, List.append_assoc]
  rfl
theorem get_mid {α : Type} {xs ys : List α} {q : Nat} (h : q ≤ xs.length) : (xs.take q ++ ys.drop q)[q]? = ys[q]? := by
  have hl : (xs.take q).length = q := by
    rw [List.length_take]
    omega
  rw [List.getElem?_append_right (by omega), hl, Nat.sub_self, List.getElem?_drop, Nat.add_zero]
theorem sentL_len {m n : Nat} {t : Int} {sent : List Int} {l : LD} : (sentL m n t sent l).length = n := by
  unfold sentL
  rw [List.length_map, List.length_range]
theorem sentT_len {m n : Nat} {t : Int} : ∀ {ls : List LD} {sent : List Int}, sent.length = n → (ls.foldl (sentL m n t) sent).length = n
  | [], _, h => h
  | _ :: ls, _, _ => sentT_len (ls := ls) sentL_len
theorem sentP_len {m n : Nat} : ∀ {zs : List (BD × Int)} {sent : List Int}, sent.length = n → (zs.foldl (sentT m n) sent).length = n
  | [], _, h => h
  | _ :: zs, _, h => sentP_len (zs := zs) (sentT_len h)
def spHanded (K : PySem.W.Frag) (CB CL CF : Addr) : Sp := fun vs H Q _ => ∃ (a : Addr) (ts : List V) (zs : List (BD × Int)) (n m : Nat), vs = [.ref a, .int (n : Int), .int (m : Int)] ∧ H a = some (.lst ts) ∧ AllR (TurnV CB CL CF H) ts zs ∧ 0 < n ∧ n ≤ 1000 ∧
  ∀ p H', Same H H' → H p = none → H' p = some (.tup ((sentP m n zs).map V.int)) → Q (.ref p) H'
theorem ok_handed_on (T : Txt K mg) : FnOk P w K mg base CX0 3 T.a_handed_on T.d_handed_on ["turns", "n", "length"] (spHanded K T.c_Block T.c_Lane T.c_Form) := by
  have G_cuts : FnOk P w K mg base CX0 1 T.a_cuts T.d_cuts ["length", "n"] (spCuts K) := ok_cuts T
  have G_drift : FnOk P w K mg base CX0 2 T.a_drift T.d_drift ["lane", "t", "n"] (spDrift T.c_Lane T.c_Form) := ok_drift T
  refine T.F_handed_on.ok sc_handed_on (fun vs H Q E h => ?_) (fun cdv A outer s H vs Q E hr h => ?_)
  · obtain ⟨a, ts, zs, n, m, rfl, _⟩ := h
    rfl
  · obtain ⟨a, ts, zs, n, m, rfl, ha, hts, n0, n1, k⟩ := h
    have nd := sc_handed_on.nd
    refine ⟨_, (pss_cons (ps_setLc (i := 3) (own := [("low", 4), ("high", 5)]) (g := (gTup K 2 (gCons (gName 4) (gCons (gName 5) gNil)))) (by rfl) nd rfl rfl (sw_true rfl rfl rfl (by decide +kernel)) (pi_tup (pe_call G_cuts (hr.mono (by first | decide | omega)) (by rfl) T.m_cuts T.k_cuts T.b_cuts .nil pass0 (pa_cons (pv 2) (pa_cons (pv 1) pa_nil)))) (blkOk_by (N := ["turns", "n", "length", "sizes", "low", "high", "sent", "block", "t", "lane", "ahead", "machine"]) (sc := defScope s_handed_on) (own := [("low", 4), ("high", 5)]) (by decide +kernel)) (fun _ _ _ _ _ => by exact (pg_tup rfl (pgs_cons (pg_name (i := 4) nd rfl (Or.inl rfl)) (pgs_cons (pg_name (i := 5) nd rfl (Or.inl rfl)) pgs_nil)))) (fun _ _ _ _ _ => by exact pts_nil) (fun _ _ _ _ _ => by exact (pe_op op_sub (pv 5) (pv 4))))
    (pss_cons (ps_set (i := 6) nd rfl (Or.inl rfl) (pe_op op_rep (pe_lst (pa_cons pe_int pa_nil)) (pv 1)))
    (pss_cons (ps_for PassesOwn.never rfl (pi_list (pv 0)) (pg_tup rfl (pgs_cons (pg_name (i := 7) nd rfl (Or.inl rfl)) (pgs_cons (pg_name (i := 8) nd rfl (Or.inl rfl)) pgs_nil)))
    (pss_one (ps_for PassesOwn.never rfl (pi_tup (pe_fld (pv 7) rfl)) (pg_name (i := 9) nd rfl (Or.inl rfl))
    (pss_cons (ps_set (i := 10) nd rfl (Or.inl rfl) (pe_call G_drift (hr.mono (by first | decide | omega)) (by rfl) T.m_drift T.k_drift T.b_drift .nil pass0 (pa_cons (pv 9) (pa_cons (pv 8) (pa_cons (pv 1) pa_nil)))))
    (pss_one (ps_for PassesOwn.never rfl (pi_range1 (by rfl) T.z_range (pa_cons (pv 1) pa_nil)) (pg_name (i := 11) nd rfl (Or.inl rfl))
    (pss_one (ps_augS (pv 6) (pv 11) get_list (pe_ix ix_list (pv 3) (pe_op op_mod (pe_op op_add (pv 11) (pv 10)) (pv 1)) (fun _ _ => rfl)) ip_add set_list))))))))
    (pss_one (ps_ret (pe_callTy call_tuple_of (by rfl) T.z_tuple (by decide +kernel) (pa_cons (pv 6) pa_nil))))))), ?_⟩
    have lt := hts.length
    refine asg_go ?_
    refine ⟨_, rfl, _, rfl, m, n, rfl, n0, n1, fun pc wc Hc0 s0 npc hpc hwc => ⟨pc, rfl, ⟨_, SqT.of hpc⟩, fun D nD => ?_⟩⟩
    have lwc := hwc.length
    have lcu : (cutsP m n).length = n := by
      unfold cutsP
      rw [List.length_map, List.length_range]
    refine lc_tup (xs := wc) (fun i Hc => Hc D = some (.lst (((List.range i).map (sizeP m n)).map V.int)) ∧ Same Hc0 Hc) ⟨upd_same, same_new nD⟩ (fun i Hc _ hP => SqT.of (hP.2 _ _ hpc)) (fun i v Hc hv hP => ?_) (fun Hc hP => ?_)
    · obtain ⟨hD, sc⟩ := hP
      obtain ⟨z, ez, qz, rfl, hqz⟩ := hwc.get hv
      have hi : i < n := by
        have := (List.getElem?_eq_some_iff.mp hv).1
        omega
      have hz : z = (loP m n i, loP m n (i + 1)) := by
        unfold cutsP at ez
        rw [List.getElem?_map, List.getElem?_range hi] at ez
        cases ez
        rfl
      subst hz
      refine ⟨qz, _, rfl, SqT.of (sc _ _ hqz), rfl, ⟨_, _, rfl, _, _, rfl, rfl, rfl, ?_⟩⟩
      refine ⟨_, rfl, _, rfl, _, _, rfl, rfl, ?_⟩
      refine ⟨_, hD, szl' (by rw [List.length_map, List.length_map, List.length_range]; omega), ?_, same_lst sc nD⟩
      rw [upd_same, List.range_succ, List.map_append, List.map_append]
      rfl
    · obtain ⟨hD, sc⟩ := hP
      rw [lwc, lcu] at hD
      have s1 := s0.trans sc
      dsimp only [gName]
      refine asg_go ?_
      refine ⟨szL (Nat.le_of_ble_eq_true rfl), fun f nf => ?_⟩
      have s2 := s1.trans (same_new (o := .lst [.int 0]) nf)
      have hDf := (same_new (o := .lst [.int 0]) nf) _ _ hD
      have nD1 : D ≠ f := ne_of_none hD nf
      refine ⟨_, rfl, f, n, [.int 0], rfl, rfl, upd_same, by omega, by omega, Nat.le_of_lt (szl' (show 1 * n ≤ 10000 by omega)), fun e ne => ?_⟩
      have s3 := s2.trans (same_new (o := .lst (List.replicate (n : Int).toNat [V.int 0]).flatten) ne)
      have hDe := (same_new (o := .lst (List.replicate (n : Int).toNat [V.int 0]).flatten) ne) _ _ hDf
      have hee : upd (upd Hc f (.lst [.int 0])) e (.lst (List.replicate (n : Int).toNat [V.int 0]).flatten) e = some (.lst ((List.replicate n (0 : Int)).map V.int)) := by
        rw [upd_same, List.flatten_replicate_singleton, List.map_replicate, Int.toNat_natCast]
      generalize upd (upd Hc f (.lst [.int 0])) e (.lst (List.replicate (n : Int).toNat [V.int 0]).flatten) = H4 at s3 hDe hee ⊢
      have nHe : H e = none := by
        have := s2.free ne
        exact this
      have neD : D ≠ e := by
        rintro rfl
        rw [hDf] at ne
        cases ne
      dsimp only [gName]
      refine ⟨_, rfl, a, rfl, ⟨_, SqL.of (s3 _ _ ha)⟩, ?_⟩
      refine for_list (xs := ts) (fun i σ Hd => ∃ y7 y8 y9 y10 y11, σ = [some (.ref a), some (.int (n : Int)), some (.int (m : Int)), some (.ref D), none, none, some (.ref e), y7, y8, y9, y10, y11] ∧ Hd e = some (.lst ((sentP m n (zs.take i)).map V.int)) ∧ Hd D = some (.lst (((List.range n).map (sizeP m n)).map V.int)) ∧ Same H Hd)
        ⟨none, none, none, none, none, rfl, hee, hDe, s3⟩ (fun i σ Hd _ hR => by obtain ⟨_, _, _, _, _, _, _, _, s⟩ := hR; exact SqL.of (s _ _ ha)) (fun i v σ Hd hv hP => ?_) (fun σ Hd hP => ?_)
      · obtain ⟨y7, y8, y9, y10, y11, rfl, hE, hD2, sd⟩ := hP
        obtain ⟨z, ez, qz, u, rfl, hqz, hbo⟩ := hts.get hv
        obtain ⟨x, dx, yf, tp, ws, rfl, hx, hyf, htp, hws, di⟩ := id hbo
        have lw := hws.length
        refine ⟨qz, _, rfl, SqT.of (sd _ _ hqz), rfl, ⟨_, _, rfl, _, _, rfl, rfl, ?_⟩⟩
        dsimp only [gName]
        refine ⟨_, rfl, x, _, dx, _, _, rfl, sd _ _ hx, T.C_Block, T.n_Block_lanes, rfl, tp, rfl, ⟨ws, SqT.of (sd _ _ htp)⟩, ?_⟩
        refine for_tup (xs := ws) (fun j σ He => ∃ y9 y10 y11, σ = [some (.ref a), some (.int (n : Int)), some (.int (m : Int)), some (.ref D), none, none, some (.ref e), some (.ref x), some (.int z.2), y9, y10, y11] ∧ He e = some (.lst (((z.1.ls.take j).foldl (sentL m n z.2) (sentP m n (zs.take i))).map V.int)) ∧ He D = some (.lst (((List.range n).map (sizeP m n)).map V.int)) ∧ Same H He)
          ⟨_, _, _, rfl, hE, hD2, sd⟩ (fun j σ He _ hR => by obtain ⟨_, _, _, _, _, _, s⟩ := hR; exact SqT.of (s _ _ htp)) (fun j v σ He hv2 hP => ?_) (fun σ He hP => ?_)
        · obtain ⟨y9, y10, y11, rfl, hE3, hD3, se⟩ := hP
          obtain ⟨l, el, hl⟩ := hws.get hv2
          have hl' := hl.fz (Fz.of_same se)
          dsimp only [gName]
          refine asg_go ?_
          refine ⟨_, rfl, _, rfl, _, rfl, _, l, z.2, (n : Int), rfl, hl', by omega, by omega, ?_⟩
          dsimp only [gName]
          obtain ⟨S, eS⟩ : ∃ S, (z.1.ls.take j).foldl (sentL m n z.2) (sentP m n (zs.take i)) = S := ⟨_, rfl⟩
          have lS : S.length = n := by
            rw [← eS]
            exact sentT_len (sentP_len List.length_replicate)
          have lN : (sentL m n z.2 S l).length = n := sentL_len
          have step : (z.1.ls.take (j + 1)).foldl (sentL m n z.2) (sentP m n (zs.take i)) = sentL m n z.2 S l := by
            rw [take_snoc el, List.foldl_append, eS]
            rfl
          rw [eS] at hE3
          have nS : H e = none := nHe
          refine ⟨_, rfl, (n : Int), rfl, by omega, by omega, ?_⟩
          refine for_range (lo := 0) (fun q σ Hf => ∃ y11, σ = [some (.ref a), some (.int (n : Int)), some (.int (m : Int)), some (.ref D), none, none, some (.ref e), some (.ref x), some (.int z.2), some v, some (.int (driftP l z.2 n)), y11] ∧ Hf e = some (.lst (((sentL m n z.2 S l).take q ++ S.drop q).map V.int)) ∧ Hf D = some (.lst (((List.range n).map (sizeP m n)).map V.int)) ∧ Same H Hf)
            ⟨_, rfl, by rw [List.take_zero, List.drop_zero, List.nil_append]; exact hE3, hD3, se⟩ (fun q σ Hf hq hP => ?_) (fun σ Hf hP => ?_)
          · obtain ⟨y11, rfl, hE4, hD4, sf⟩ := hP
            have hq : q < n := by omega
            obtain ⟨old, eo⟩ : ∃ o, S[q]? = some o := ⟨_, List.getElem?_eq_getElem (by omega)⟩
            obtain ⟨jj, ejj, ljj⟩ : ∃ jj : Nat, ((q : Int) + driftP l z.2 n) % (n : Int) = (jj : Int) ∧ jj < n := ⟨(((q : Int) + driftP l z.2 n) % (n : Int)).toNat, by have := Int.emod_nonneg ((q : Int) + driftP l z.2 n) (b := (n : Int)) (by omega); omega, by have := Int.emod_lt_of_pos ((q : Int) + driftP l z.2 n) (b := (n : Int)) (by omega); have := Int.emod_nonneg ((q : Int) + driftP l z.2 n) (b := (n : Int)) (by omega); omega⟩
            have enew : (sentL m n z.2 S l)[q]? = some (old + sizeP m n jj) := by
              unfold sentL
              rw [List.getElem?_map, List.getElem?_range hq]
              show some (S.getD q 0 + sizeP m n (((q : Int) + driftP l z.2 n) % (n : Int)).toNat) = _
              rw [getD_of eo, ejj, Int.toNat_natCast]
            dsimp only [gName]
            rw [Int.zero_add]
            have eg : (((sentL m n z.2 S l).take q ++ S.drop q).map V.int)[q]? = some (V.int old) := by
              rw [List.getElem?_map, get_mid (by omega), eo]
              rfl
            have ez2 : (((List.range n).map (sizeP m n)).map V.int)[jj]? = some (V.int (sizeP m n jj)) := by
              rw [List.getElem?_map, List.getElem?_map, List.getElem?_range ljj]
              rfl
            refine ⟨_, rfl, _, rfl, ?_⟩
            refine ⟨_, _, (q : Int), .int old, rfl, rfl, SqL.of hE4, Int.natCast_nonneg q, eg, ?_⟩
            refine ⟨_, rfl, _, rfl, _, rfl, _, _, rfl, rfl, _, rfl, _, _, rfl, rfl, by omega, ?_⟩
            refine ⟨_, _, _, _, rfl, rfl, SqL.of hD4, (by rw [ejj]; exact atI_nat ez2 : atI _ (((q : Int) + driftP l z.2 (n : Int)) % (n : Int)) = some (.int (sizeP m n jj))), ?_⟩
            refine ⟨_, _, rfl, rfl, ?_⟩
            refine ⟨e, _, (q : Int), q, rfl, rfl, hE4, ixN_of (by rw [List.length_map, List.length_append, List.length_take, List.length_drop]; omega), ?_⟩
            refine ⟨_, rfl, ?_, by rw [upd_ne neD]; exact hD4, same_lst sf nS⟩
            rw [upd_same, ← set_mid (by omega) enew, List.map_set]
          · obtain ⟨y11, rfl, hE4, hD4, sf⟩ := hP
            refine ⟨_, _, _, rfl, ?_, hD4, sf⟩
            rw [hE4, step, Int.toNat_natCast, List.take_of_length_le (by omega), List.drop_eq_nil_of_le (by omega), List.append_nil]
        · obtain ⟨y9, y10, y11, rfl, hE3, hD3, se⟩ := hP
          refine ⟨_, _, _, _, _, rfl, ?_, hD3, se⟩
          rw [hE3, lw, List.take_length, take_snoc ez]
          unfold sentP
          rw [List.foldl_append]
          rfl
      · obtain ⟨y7, y8, y9, y10, y11, rfl, hE, hD2, sd⟩ := hP
        rw [lt, List.take_length] at hE
        dsimp only
        refine ret_go ?_
        refine ⟨_, rfl, e, _, rfl, .inl ⟨SqL.of hE, fun p np => ?_⟩⟩
        exact k p _ (sd.trans (same_new np)) (sd.free np) upd_same

end
end K17
namespace K17
open PySem PySem.Spec PyProof.Rows L2 Rs
local macro_rules | `(tactic| walk_at "om") => `(tactic| first | omega | (dsimp only; omega))
local macro_rules | `(tactic| walk_at "side") => `(tactic| first | omega | (dsimp only; omega) | decide | (unfold CMul; omega) | (unfold CDiv; omega) | (unfold CPow; omega) | exact wide_div (b := 64) (by omega) (by omega) (by decide) (by decide))
local macro_rules | `(tactic| walk_at "hp") => `(tactic| first | assumption | exact upd_same)
local macro_rules | `(tactic| walk_at "sq") => `(tactic| first | assumption | exact SqL.of (by assumption) | exact SqL.of upd_same)
local macro_rules | `(tactic| walk_at "st") => `(tactic| first
  | refine ⟨_, rfl, ?_⟩
  | (refine ⟨_, _, rfl, rfl, And.intro ?side ?_⟩; (case side => walk_at "side"))
  | refine ⟨_, _, rfl, rfl, ?_⟩
  | (refine' ⟨_, _, _, _, rfl, rfl, SqL.of ?hp, ?atx, ?_⟩; (case hp => walk_at "hp"); (case atx => exact rfl))
  | (refine' ⟨_, _, _, _, rfl, rfl, ?hp, ?atx, ?_⟩; (case hp => walk_at "hp"); (case atx => exact rfl))
  | (refine' ⟨_, _, rfl, Or.inl ?sq, ?_⟩; (case sq => walk_at "sq"))
  | refine Or.inl ⟨_, rfl, ?_⟩
  | refine Or.inr ⟨_, rfl, ?_⟩)
local macro_rules | `(tactic| walk_at "evd") => `(tactic| first
  | exact evd_int
  | exact evd_str
  | exact evd_non
  | exact evd_bl
  | exact evd_nil
  | (refine evd_cons ?_ (fun _ => ?_) <;> walk_at "evd")
  | (refine evd_tup ?_ (Nat.le_of_ble_eq_true rfl); walk_at "evd"))

section
variable {P : Program} {w : World} {K : PySem.W.Frag} {mg : Str → Option Value} {base : Heap}
/-! slips: how often each sending comes -/
abbrev Snd := Int × Int × Int
def comeN (cs : List (Snd × Nat)) (k : Snd) : Nat := ((cs.find? fun c => decide (c.1 = k)).map (·.2)).getD 1
def keyS (k : Snd) : List L2.Key := [.inl k.1, .inl k.2.1, .inl k.2.2]
def entS (c : Snd × Nat) : List L2.Key × V := (keyS c.1, .int (c.2 : Int))
def withP (t : Int) (cs : List (Snd × Nat)) (hps : List HP) : List HP := hps.zipIdx.flatMap fun z => List.replicate (comeN cs (t, z.1.m, (z.2 : Int))) z.1
theorem keyS_inj {a b : Snd} (e : keyS a = keyS b) : a = b := by
  obtain ⟨a1, a2, a3⟩ := a
  obtain ⟨b1, b2, b3⟩ := b
  simp only [keyS, List.cons.injEq, Sum.inl.injEq] at e
  obtain ⟨e1, e2, e3, _⟩ := e
  subst e1; subst e2; subst e3
  rfl
theorem valS {cs : List (Snd × Nat)} {k : Snd} : valV (cs.map entS) (keyS k) = (cs.find? fun c => decide (c.1 = k)).map fun c => V.int (c.2 : Int) := by
  induction cs with
  | nil => rfl
  | cons c cs ih =>
    rw [List.map_cons]
    by_cases e : c.1 = k
    · rw [valV_pos (show (entS c).1 = keyS k by rw [← e]; rfl), List.find?_cons_of_pos (by rw [decide_eq_true_eq]; exact e)]
      rfl
    · rw [valV_neg (fun h => e (keyS_inj h)), List.find?_cons_of_neg (by rw [decide_eq_true_eq]; exact e), ih]
theorem comeS {cs : List (Snd × Nat)} {k : Snd} : (valV (cs.map entS) (keyS k)).getD (.int 1) = .int (comeN cs k : Int) := by
  rw [valS]
  unfold comeN
  cases cs.find? fun c => decide (c.1 = k) with
  | none => rfl
  | some c => rfl
theorem come_le {cs : List (Snd × Nat)} {k : Snd} (h : ∀ c ∈ cs, c.2 ≤ 2) : comeN cs k ≤ 2 := by
  unfold comeN
  cases e : cs.find? fun c => decide (c.1 = k) with
  | none => decide
  | some c => exact h c (List.mem_of_find?_eq_some e)
theorem HopV.fz {H H' : Hp} {v : V} {h : HP} (k : HopV H v h) (s : Fz H H') : HopV H' v h := by
  obtain ⟨q, e, hq⟩ := k
  exact ⟨q, e, s _ _ trivial hq⟩
def spWithSlips : Sp := fun vs H Q _ => ∃ (hv cd : Addr) (hs : List V) (hps : List HP) (t : Int) (cs : List (Snd × Nat)), vs = [.ref hv, .int t, .ref cd] ∧ H hv = some (.lst hs) ∧ AllR (HopV H) hs hps ∧ hs.length ≤ 1000 ∧ H cd = some (.dT (cs.map entS)) ∧ (∀ c ∈ cs, c.2 ≤ 2) ∧
  ∀ D rs H', Same H H' → H D = none → H' D = some (.lst rs) → AllR (HopV H') rs (withP t cs hps) → Q (.ref D) H'
theorem ok_with_slips (T : Txt K mg) : FnOk P w K mg base CX0 1 T.a_with_slips T.d_with_slips ["hops", "turn", "comings"] spWithSlips := by
  refine T.F_with_slips.ok sc_with_slips (fun vs H Q E h => ?_) (fun cdv A outer s H vs Q E hr h => ?_)
  · obtain ⟨hv, cd, hs, hps, t, cs, rfl, _⟩ := h
    rfl
  · obtain ⟨hv, cd, hs, hps, t, cs, rfl, hh, hhs, l1, hc, c2, k⟩ := h
    have nd := sc_with_slips.nd
    refine ⟨_, (pss_one (ps_ret (pe_lc2 (own := [("lane", 3), ("hop", 4), ("_", 5)]) (vs1 := [5]) (g := (gTup K 2 (gCons (gName 3) (gCons (gName 4) gNil)))) (g1 := (gName 5)) (by rfl) nd (by exact (pi_enum (by rfl) T.z_enumerate (pa_cons (pv 0) pa_nil))) (blkOk_by (N := ["hops", "turn", "comings", "lane", "hop", "_"]) (sc := defScope s_with_slips) (own := [("lane", 3), ("hop", 4), ("_", 5)]) (by decide +kernel)) (by decide) (fun _ _ _ _ _ => by exact (pg_tup rfl (pgs_cons (pg_name (i := 3) nd rfl (Or.inl rfl)) (pgs_cons (pg_name (i := 4) nd rfl (Or.inl rfl)) pgs_nil)))) (fun _ _ _ _ _ => by exact pts_nil) (fun _ _ _ _ _ => by exact (pi_range1 (by rfl) T.z_range (pa_cons (pe_dget2 (un1 hr) (pv 2) (pe_tup (pa_cons (pv 1) (pa_cons (pe_ix (ix_tupK (K := K) rfl) (pv 4) pe_int (fun _ _ => rfl)) (pa_cons (pv 3) pa_nil)))) pe_int ⟨rfl, rfl, rfl, rfl⟩) pa_nil))) (fun _ _ _ _ _ => by exact (pg_name (i := 5) nd rfl (Or.inl rfl))) (fun _ _ _ _ _ => by exact pts_nil) (fun _ _ _ _ _ => by exact (pv 4))))), ?_⟩
    refine ret_go ?_
    have lh := hhs.length
    refine ⟨_, rfl, hv, hs, rfl, SqL.of hh, fun D nD => ?_⟩
    refine walk_go (walk_enum (xs := hs)) (fun i Hc => ∃ rs, Hc D = some (.lst rs) ∧ AllR (HopV Hc) rs ((hps.zipIdx.take i).flatMap fun z => List.replicate (comeN cs (t, z.1.m, (z.2 : Int))) z.1) ∧ Same H Hc ∧ rs.length ≤ 2 * i) ⟨[], upd_same, .nil, same_new nD, Nat.zero_le _⟩ (fun i Hc _ hP => by obtain ⟨_, _, _, s, _⟩ := hP; exact SqL.of (s _ _ hh)) (fun i v Hc H' hi hP hy => ?_) (fun Hc hP => ?_)
    · obtain ⟨rs, hD, hrs, sc, lr⟩ := hP
      obtain ⟨T', v1, v2, rfl, nT, rfl, h1, h2⟩ := hy
      cases h1
      obtain ⟨h, eh, q, rfl, hq⟩ := hhs.get h2
      have s1 := same_new (o := .tup [.int ((i : Nat) : Int), .ref q]) nT
      have hT : upd Hc T' (.tup [.int ((i : Nat) : Int), .ref q]) T' = some (.tup [.int ((i : Nat) : Int), .ref q]) := upd_same
      generalize upd Hc T' (.tup [.int ((i : Nat) : Int), .ref q]) = H1 at s1 hT ⊢
      have sT := sc.trans s1
      refine ⟨T', _, rfl, SqT.of hT, rfl, ⟨_, _, rfl, _, _, rfl, rfl, rfl, ?_⟩⟩
      refine ⟨_, rfl, cd, rfl, .inr ⟨_, .inl (sT _ _ hc)⟩, _, rfl, _, rfl, q, _, (0 : Int), .int h.m, rfl, rfl, SqT.of (sT _ _ hq), rfl, _, rfl, szL (Nat.le_of_ble_eq_true rfl), fun p np => ?_⟩
      have s2 := same_new (o := .tup [.int t, .int h.m, .int ((i : Nat) : Int)]) np
      have hp : upd H1 p (.tup [.int t, .int h.m, .int ((i : Nat) : Int)]) p = some (.tup ((keyS (t, h.m, ((i : Nat) : Int))).map kV)) := upd_same
      generalize upd H1 p (.tup [.int t, .int h.m, .int ((i : Nat) : Int)]) = H2 at s2 hp ⊢
      have s12 := s1.trans s2
      have sA := sc.trans s12
      have cl := come_le (k := (t, h.m, ((i : Nat) : Int))) c2
      refine ⟨_, DGet.t (sA _ _ hc) hp, (comeN cs (t, h.m, ((i : Nat) : Int)) : Int), by rw [comeS], by omega, by omega, ?_⟩
      have base_ : (hps.zipIdx.take (i + 1)).flatMap (fun z => List.replicate (comeN cs (t, z.1.m, (z.2 : Int))) z.1) = (hps.zipIdx.take i).flatMap (fun z => List.replicate (comeN cs (t, z.1.m, (z.2 : Int))) z.1) ++ List.replicate (comeN cs (t, h.m, ((i : Nat) : Int))) h := by
        have ez : hps.zipIdx[i]? = some (h, i) := by
          rw [List.getElem?_zipIdx, eh, Nat.zero_add]
          rfl
        rw [take_snoc ez, List.flatMap_append, List.flatMap_cons, List.flatMap_nil, List.append_nil]
      refine walk_go walk_range (fun j Hc2 => ∃ rs2, Hc2 D = some (.lst rs2) ∧ AllR (HopV Hc2) rs2 ((hps.zipIdx.take i).flatMap (fun z => List.replicate (comeN cs (t, z.1.m, (z.2 : Int))) z.1) ++ List.replicate j h) ∧ Same H Hc2 ∧ rs2.length ≤ 2 * i + j) ⟨rs, s12 _ _ hD, by rw [List.replicate_zero, List.append_nil]; exact hrs.mono fun v r h => h.same s12, sA, by omega⟩ (fun _ _ _ _ => trivial) (fun j v2 H3 Hc2 hj hP hy => ?_) (fun Hc2 hP => ?_)
      · obtain ⟨rs2, hD2, hrs2, sc2, lr2⟩ := hP
        obtain ⟨rfl, rfl⟩ := hy
        have hj : j < ((comeN cs (t, h.m, ((i : Nat) : Int)) : Nat) : Int).toNat := hj
        refine ⟨rfl, _, rfl, rs2, hD2, szl' (by omega), rs2 ++ [.ref q], upd_same, ?_, same_lst sc2 nD, by rw [List.length_append, List.length_singleton]; omega⟩
        rw [List.replicate_succ', ← List.append_assoc]
        have zz : Fz Hc2 (upd Hc2 D (.lst (rs2 ++ [.ref q]))) := Fz.lst hD2
        exact AllR.snoc (hrs2.mono fun v r h => h.fz zz) (HopV.fz ⟨q, rfl, sc2 _ _ hq⟩ zz)
      · obtain ⟨rs2, hD2, hrs2, sc2, lr2⟩ := hP
        rw [Int.toNat_natCast] at hrs2 lr2
        exact ⟨rs2, hD2, by rw [base_]; exact hrs2, sc2, by omega⟩
    · obtain ⟨rs, hD, hrs, sc, lr⟩ := hP
      rw [lh, List.take_of_length_le (by rw [List.length_zipIdx]; exact Nat.le_refl _)] at hrs
      exact k D rs Hc sc nD hD hrs

end
end K17
namespace K17
open PySem PySem.Spec PyProof.Rows L2 Rs
local macro_rules | `(tactic| walk_at "om") => `(tactic| first | omega | (dsimp only; omega))
local macro_rules | `(tactic| walk_at "side") => `(tactic| first | omega | (dsimp only; omega) | decide | (unfold CMul; omega) | (unfold CDiv; omega) | (unfold CPow; omega) | exact wide_div (b := 64) (by omega) (by omega) (by decide) (by decide))
local macro_rules | `(tactic| walk_at "hp") => `(tactic| first | assumption | exact upd_same)
local macro_rules | `(tactic| walk_at "sq") => `(tactic| first | assumption | exact SqL.of (by assumption) | exact SqL.of upd_same)
local macro_rules | `(tactic| walk_at "st") => `(tactic| first
  | refine ⟨_, rfl, ?_⟩
  | (refine ⟨_, _, rfl, rfl, And.intro ?side ?_⟩; (case side => walk_at "side"))
  | refine ⟨_, _, rfl, rfl, ?_⟩
  | (refine' ⟨_, _, _, _, rfl, rfl, SqL.of ?hp, ?atx, ?_⟩; (case hp => walk_at "hp"); (case atx => exact rfl))
  | (refine' ⟨_, _, _, _, rfl, rfl, ?hp, ?atx, ?_⟩; (case hp => walk_at "hp"); (case atx => exact rfl))
  | (refine' ⟨_, _, rfl, Or.inl ?sq, ?_⟩; (case sq => walk_at "sq"))
  | refine Or.inl ⟨_, rfl, ?_⟩
  | refine Or.inr ⟨_, rfl, ?_⟩)
local macro_rules | `(tactic| walk_at "evd") => `(tactic| first
  | exact evd_int
  | exact evd_str
  | exact evd_non
  | exact evd_bl
  | exact evd_nil
  | (refine evd_cons ?_ (fun _ => ?_) <;> walk_at "evd")
  | (refine evd_tup ?_ (Nat.le_of_ble_eq_true rfl); walk_at "evd"))

section
variable {P : Program} {w : World} {K : PySem.W.Frag} {mg : Str → Option Value} {base : Heap}
/-! what the machines have of one piece behind some rounds -/
def turnC (p n : Int) (cs : List (Snd × Nat)) (cells : List (List Int)) (z : Int × (BD × Int)) : List (List Int) := doHops cells (withP z.1 cs (z.2.1.ls.map (hopP z.2.2 n p)))
def cellsP (p n : Int) (cs : List (Snd × Nat)) (cells : List (List Int)) (zs : List (Int × (BD × Int))) : List (List Int) := zs.foldl (turnC p n cs) cells
def TurnE (CB CL CF : Addr) (H : Hp) (e : L2.Key × V) (z : Int × (BD × Int)) : Prop := e.1 = .inl z.1 ∧ TurnV CB CL CF H e.2 z.2
theorem Fz.dk {H : Hp} {d : Addr} {kvs : List (L2.Key × V)} {o : HO} (h : H d = some (.dK kvs)) : Fz H (upd H d o) := fun a u f e => by
  have : a ≠ d := by
    rintro rfl
    rw [h] at e
    cases e
    exact f.elim
  rw [upd_ne this]
  exact e
theorem same_unlock {H H' : Hp} {d : Addr} {u v : HO} (h : H d = some u) (s : Same (upd H d v) H') : Same H (upd H' d u) := fun a o e => by
  by_cases q : a = d
  · subst q
    rw [upd_same, ← h]
    exact e
  · rw [upd_ne q]
    exact s _ _ (by rw [upd_ne q]; exact e)
theorem withP_mem {t : Int} {cs : List (Snd × Nat)} {hps : List HP} {h : HP} (m : h ∈ withP t cs hps) : h ∈ hps := by
  unfold withP at m
  obtain ⟨z, hz, hm⟩ := List.mem_flatMap.mp m
  rw [(List.mem_replicate.mp hm).2]
  exact (List.mem_zipIdx' hz).2 ▸ List.getElem_mem _
theorem hopP_ok {t p : Int} {n : Nat} {l : LD} (n0 : 0 < n) : 0 ≤ (hopP t n p l).m ∧ (hopP t n p l).m < n ∧ 0 ≤ (hopP t n p l).g ∧ (hopP t n p l).g < n :=
  ⟨Int.emod_nonneg _ (by omega), Int.emod_lt_of_pos _ (by omega), Int.emod_nonneg _ (by omega), Int.emod_lt_of_pos _ (by omega)⟩
theorem doHops_ok {n m : Nat} {cs : List (List Int)} (hc : CellsI n m cs) {hps : List HP} (hb : ∀ h ∈ hps, 0 ≤ h.m ∧ h.m < n ∧ 0 ≤ h.g ∧ h.g < n) : CellsI n m (doHops cs hps) := by
  unfold doHops
  have go : ∀ (hps : List HP) (after : List (List Int)), CellsI n m after → (∀ h ∈ hps, 0 ≤ h.m ∧ h.m < n ∧ 0 ≤ h.g ∧ h.g < n) → CellsI n m (hps.foldl (doHop cs) after) := by
    intro hps
    induction hps with
    | nil => intro after ha _; exact ha
    | cons h hps ih =>
      intro after ha hb
      obtain ⟨b1, b2, b3, b4⟩ := hb h List.mem_cons_self
      exact ih _ (CellsI.hop hc ha (by omega) (by omega)) fun x hx => hb x (List.mem_cons_of_mem _ hx)
  exact go hps cs hc hb
theorem RowT.unlock {K : PySem.W.Frag} {H : Hp} {d : Addr} {od : Obj} {kvs : List (L2.Key × V)} {v : V} {r : List Int} (h : RowT K H v r) (hd : H d = some (.frz od (.dK kvs))) : RowT K (upd H d (.dK kvs)) v r := by
  obtain ⟨p, e, hp⟩ := h
  refine ⟨p, e, ?_⟩
  rcases hp with (hp | ⟨o, hp⟩) | hp
  · refine .inl (.inl ?_)
    rw [upd_ne (by rintro rfl; rw [hd] at hp; cases hp)]
    exact hp
  · refine .inl (.inr ⟨o, ?_⟩)
    rw [upd_ne (by rintro rfl; rw [hd] at hp; cases hp)]
    exact hp
  · exact .inr hp
def spCells (K : PySem.W.Frag) (CB CL CF : Addr) : Sp := fun vs H Q _ => ∃ (c td cd : Addr) (us : List V) (cells : List (List Int)) (kvs : List (L2.Key × V)) (zs : List (Int × (BD × Int))) (cs : List (Snd × Nat)) (p : Int) (n m : Nat), vs = [.int p, .ref c, .ref td, .ref cd] ∧ H c = some (.lst us) ∧ AllR (RowT K H) us cells ∧ CellsI n m cells ∧ n ≤ 1000 ∧ m ≤ 1000 ∧ 0 < n ∧
  H td = some (.dK kvs) ∧ AllR (TurnE CB CL CF H) kvs zs ∧ H cd = some (.dT (cs.map entS)) ∧ (∀ c ∈ cs, c.2 ≤ 2) ∧
  ∀ D rs H', Same H H' → H D = none ∨ D = c → H' D = some (.lst rs) → AllR (RowT K H') rs (cellsP p n cs cells zs) → Q (.ref D) H'
theorem ok_cells_after (T : Txt K mg) (hST : ∀ l : LD, LI l → KDct K w T.A_STEPS l.w (.int (stepP l))) : FnOk P w K mg base CX0 4 T.a__cells_after T.d__cells_after ["piece", "cells", "turns", "comings"] (spCells K T.c_Block T.c_Lane T.c_Form) := by
  have G_hops_in : FnOk P w K mg base CX0 3 T.a_hops_in T.d_hops_in ["block", "t", "n", "piece"] (spHopsIn T.c_Block T.c_Lane T.c_Form) := ok_hops_in T hST
  have G_do_hops : FnOk P w K mg base CX0 2 T.a_do_hops T.d_do_hops ["cells", "hops"] (spDoHops K) := ok_do_hops T
  have G_with_slips : FnOk P w K mg base CX0 1 T.a_with_slips T.d_with_slips ["hops", "turn", "comings"] spWithSlips := ok_with_slips T
  refine T.F__cells_after.ok sc__cells_after (fun vs H Q E h => ?_) (fun cdv A outer s H vs Q E hr h => ?_)
  · obtain ⟨c, td, cd, us, cells, kvs, zs, cs, p, n, m, rfl, _⟩ := h
    rfl
  · obtain ⟨c, td, cd, us, cells, kvs, zs, cs, p, n, m, rfl, hc, hus, ci, n1, m1, n0, htd, hkv, hcd, c2, k⟩ := h
    have nd := sc__cells_after.nd
    refine ⟨_, (pss_cons (ps_lock (ps_for PassesOwn.never rfl (pi_items (pv 2)) (pg_tup rfl (pgs_cons (pg_name (i := 4) nd rfl (Or.inl rfl)) (pgs_cons (pg_tup rfl (pgs_cons (pg_name (i := 5) nd rfl (Or.inl rfl)) (pgs_cons (pg_name (i := 6) nd rfl (Or.inl rfl)) pgs_nil))) pgs_nil)))
    (pss_cons (ps_set (i := 7) nd rfl (Or.inl rfl) (pe_call G_hops_in (hr.mono (by first | decide | omega)) (by rfl) T.m_hops_in T.k_hops_in T.b_hops_in .nil pass0 (pa_cons (pv 5) (pa_cons (pv 6) (pa_cons (pe_callB call_len_seq (by rfl) T.z_len (by decide +kernel) (pa_cons (pv 1) pa_nil)) (pa_cons (pv 0) pa_nil))))))
    (pss_one (ps_set (i := 1) nd rfl (Or.inl rfl) (pe_call G_do_hops (hr.mono (by first | decide | omega)) (by rfl) T.m_do_hops T.k_do_hops T.b_do_hops .nil pass0 (pa_cons (pv 1) (pa_cons (pe_call G_with_slips (hr.mono (by first | decide | omega)) (by rfl) T.m_with_slips T.k_with_slips T.b_with_slips .nil pass0 (pa_cons (pv 7) (pa_cons (pv 4) (pa_cons (pv 3) pa_nil)))) pa_nil))))))))
    (pss_one (ps_ret (pv 1)))), ?_⟩
    refine ⟨td, _, htd, trivial, fun od => ?_⟩
    refine ⟨_, rfl, td, od, kvs, rfl, upd_same, ?_⟩
    have lk := hkv.length
    have f0 : Fz H (upd H td (.frz od (.dK kvs))) := Fz.dk htd
    have hcn : c ≠ td := by
      rintro rfl
      rw [htd] at hc
      cases hc
    have hdn : cd ≠ td := by
      rintro rfl
      rw [htd] at hcd
      cases hcd
    have hc0 : upd H td (.frz od (.dK kvs)) c = some (.lst us) := by rw [upd_ne hcn]; exact hc
    have hcd0 : upd H td (.frz od (.dK kvs)) cd = some (.dT (cs.map entS)) := by rw [upd_ne hdn]; exact hcd
    have htd0 : upd H td (.frz od (.dK kvs)) td = some (.frz od (.dK kvs)) := upd_same
    have hkv0 : AllR (TurnE T.c_Block T.c_Lane T.c_Form (upd H td (.frz od (.dK kvs)))) kvs zs := hkv.mono fun e z h => ⟨h.1, h.2.fz f0⟩
    refine for_it walk_items (fun i σ Hc => ∃ c' rs y4 y5 y6 y7, σ = [some (.int p), some (.ref c'), some (.ref td), some (.ref cd), y4, y5, y6, y7] ∧ Hc c' = some (.lst rs) ∧ AllR (RowT K Hc) rs (cellsP p n cs cells (zs.take i)) ∧ CellsI n m (cellsP p n cs cells (zs.take i)) ∧ Same (upd H td (.frz od (.dK kvs))) Hc ∧ (H c' = none ∨ c' = c))
      ⟨c, us, _, _, _, _, rfl, hc0, hus.mono fun v r h => h.fz f0, ci, fun _ _ e => e, .inr rfl⟩ (fun i σ Hc _ hP => by obtain ⟨_, _, _, _, _, _, _, _, _, _, s, _⟩ := hP; exact s _ _ htd0) (fun i v σ Hc H' hi hP hy => ?_) (fun σ Hc hP => ?_)
    · obtain ⟨c', rs, y4, y5, y6, y7, rfl, hc', hrs, cj, sc, nc⟩ := hP
      obtain ⟨T', v1, v2, rfl, nT, rfl, h1, h2⟩ := hy
      obtain ⟨kv, ekv⟩ : ∃ kv, kvs[i]? = some kv := ⟨_, List.getElem?_eq_getElem hi⟩
      dsimp only at h1 h2
      rw [ekv] at h1 h2
      cases h1
      cases h2
      obtain ⟨z, ez, ek, q, u, ev, hq, hbo⟩ := hkv0.get ekv
      obtain ⟨tn, d, t⟩ := z
      obtain ⟨kk, vv⟩ := kv
      dsimp only at ek ev hq hbo
      subst ek
      subst ev
      have s1 := same_new (o := .tup [kV (.inl tn), .ref q]) nT
      have hT : upd Hc T' (.tup [kV (.inl tn), .ref q]) T' = some (.tup [.int tn, .ref q]) := upd_same
      generalize upd Hc T' (.tup [kV (.inl tn), .ref q]) = H1 at s1 hT ⊢
      have sA := sc.trans s1
      obtain ⟨xb, dxb, yb, tpb, ub, rfl, hxb, hyb, htb, hab, dbi⟩ := id hbo
      refine ⟨T', _, rfl, SqT.of hT, rfl, ⟨_, _, rfl, _, _, rfl, ⟨q, _, rfl, SqT.of (sA _ _ hq), rfl, ⟨_, _, rfl, _, _, rfl, rfl, ?_⟩⟩⟩⟩
      refine ⟨rfl, ?_⟩
      have lr := hrs.length
      rw [cj.n] at lr
      refine asg_go ?_
      refine ⟨_, rfl, _, rfl, ⟨_, rfl, c', rs, rfl, .inl (SqL.of (s1 _ _ hc')), _, rfl, ?_⟩⟩
      rw [lr]
      refine ⟨.ref xb, d, t, (n : Int), p, rfl, BlockO.fz hbo (Fz.of_same sA), by omega, by omega, fun D hs H2 s2 nD hD hhs => ?_⟩
      dsimp only [gName]
      have sB := sA.trans s2
      have lh := hhs.length
      rw [List.length_map] at lh
      have := dbi.l1
      refine ⟨_, rfl, ⟨_, rfl, _, rfl, _, rfl, D, cd, hs, _, tn, cs, rfl, hD, hhs, by omega, sB _ _ hcd0, c2, fun D2 hs2 H3 s3 nD2 hD2 hhs2 => ?_⟩⟩
      have s13 := (s1.trans s2).trans s3
      have hb : ∀ h ∈ withP tn cs (d.ls.map (hopP t n p)), 0 ≤ h.m ∧ h.m < n ∧ 0 ≤ h.g ∧ h.g < n := by
        intro h hm
        obtain ⟨l, _, rfl⟩ := List.mem_map.mp (withP_mem hm)
        exact hopP_ok n0
      refine ⟨c', D2, rs, hs2, _, _, n, m, rfl, s13 _ _ hc', hrs.mono fun v r h => h.same s13, cj, n1, m1, hD2, hhs2, hb, fun r rr H4 s4 nr hr hrr => ?_⟩
      dsimp only [gName]
      have s14 := s13.trans s4
      have step : cellsP p n cs cells (zs.take (i + 1)) = turnC p n cs (cellsP p n cs cells (zs.take i)) (tn, (d, t)) := by
        rw [take_snoc ez]
        unfold cellsP
        rw [List.foldl_append]
        rfl
      refine ⟨r, rr, _, _, _, _, rfl, hr, by rw [step]; exact hrr, by rw [step]; exact doHops_ok cj hb, sc.trans s14, .inl ?_⟩
      have := s13.free nr
      have := sc.free this
      by_cases q : r = td
      · rw [q, htd0] at this
        cases this
      · rw [upd_ne q] at this
        exact this
    · obtain ⟨c', rs, y4, y5, y6, y7, rfl, hc', hrs, cj, sc, nc⟩ := hP
      rw [lk, List.take_length] at hrs
      have ht' := sc _ _ htd0
      refine ⟨ht', ?_⟩
      dsimp only
      refine ret_go ⟨_, rfl, ?_⟩
      have n2 : c' ≠ td := by
        rintro rfl
        rw [ht'] at hc'
        cases hc'
      exact k c' rs _ (same_unlock htd sc) nc (by rw [upd_ne n2]; exact hc') (hrs.mono fun v r h => h.unlock ht')

end
end K17
namespace K17
open PySem PySem.Spec PyProof.Rows L2 Rs
local macro_rules | `(tactic| walk_at "om") => `(tactic| first | omega | (dsimp only; omega))
local macro_rules | `(tactic| walk_at "side") => `(tactic| first | omega | (dsimp only; omega) | decide | (unfold CMul; omega) | (unfold CDiv; omega) | (unfold CPow; omega) | exact wide_div (b := 64) (by omega) (by omega) (by decide) (by decide))
local macro_rules | `(tactic| walk_at "hp") => `(tactic| first | assumption | exact upd_same)
local macro_rules | `(tactic| walk_at "sq") => `(tactic| first | assumption | exact SqL.of (by assumption) | exact SqL.of upd_same)
local macro_rules | `(tactic| walk_at "st") => `(tactic| first
  | refine ⟨_, rfl, ?_⟩
  | (refine ⟨_, _, rfl, rfl, And.intro ?side ?_⟩; (case side => walk_at "side"))
  | refine ⟨_, _, rfl, rfl, ?_⟩
  | (refine' ⟨_, _, _, _, rfl, rfl, SqL.of ?hp, ?atx, ?_⟩; (case hp => walk_at "hp"); (case atx => exact rfl))
  | (refine' ⟨_, _, _, _, rfl, rfl, ?hp, ?atx, ?_⟩; (case hp => walk_at "hp"); (case atx => exact rfl))
  | (refine' ⟨_, _, rfl, Or.inl ?sq, ?_⟩; (case sq => walk_at "sq"))
  | refine Or.inl ⟨_, rfl, ?_⟩
  | refine Or.inr ⟨_, rfl, ?_⟩)
local macro_rules | `(tactic| walk_at "evd") => `(tactic| first
  | exact evd_int
  | exact evd_str
  | exact evd_non
  | exact evd_bl
  | exact evd_nil
  | (refine evd_cons ?_ (fun _ => ?_) <;> walk_at "evd")
  | (refine evd_tup ?_ (Nat.le_of_ble_eq_true rfl); walk_at "evd"))

section
variable {P : Program} {w : World} {K : PySem.W.Frag} {mg : Str → Option Value} {base : Heap}
/-! the rows behind some rounds -/
def endsP (n m : Nat) (cs : List (Snd × Nat)) (zs : List (Int × (BD × Int))) (rs : List (List Int)) : List (List (List Int)) := ((cutsP m n).map (colP rs)).zipIdx.map fun x => cellsP (x.2 : Int) n cs x.1 zs
def afterP (n m : Nat) (cs : List (Snd × Nat)) (zs : List (Int × (BD × Int))) (rs : List (List Int)) : List (List Int) := rowsP (endsP n m cs zs rs) n
theorem turnC_ok {n m : Nat} {p : Int} {cs : List (Snd × Nat)} {cells : List (List Int)} {z : Int × (BD × Int)} (n0 : 0 < n) (h : CellsI n m cells) : CellsI n m (turnC p n cs cells z) := by
  unfold turnC
  refine doHops_ok h fun x hx => ?_
  obtain ⟨l, _, rfl⟩ := List.mem_map.mp (withP_mem hx)
  exact hopP_ok n0
theorem cellsP_ok {n m : Nat} {p : Int} {cs : List (Snd × Nat)} (n0 : 0 < n) : ∀ {zs : List (Int × (BD × Int))} {cells : List (List Int)}, CellsI n m cells → CellsI n m (cellsP p n cs cells zs)
  | [], _, h => h
  | _ :: zs, _, h => cellsP_ok n0 (zs := zs) (turnC_ok n0 h)
theorem colP_ok {n m : Nat} {rs : List (List Int)} {z : Nat × Nat} (ri : RowsI n m rs) (hz : z.1 ≤ z.2 ∧ z.2 ≤ m) : CellsI n (z.2 - z.1) (colP rs z) := by
  refine ⟨?_, ?_⟩
  · unfold colP
    rw [List.length_map, ri.many]
  · intro r hr
    unfold colP at hr
    obtain ⟨r0, h0, rfl⟩ := List.mem_map.mp hr
    have := ri.long r0 h0
    rw [List.length_drop, List.length_take]
    omega
theorem ends_get {n m : Nat} {cs : List (Snd × Nat)} {zs : List (Int × (BD × Int))} {rs : List (List Int)} {j : Nat} (hj : j < n) : (endsP n m cs zs rs)[j]? = some (cellsP (j : Int) n cs (colP rs (loP m n j, loP m n (j + 1))) zs) := by
  unfold endsP
  rw [List.getElem?_map, List.getElem?_zipIdx, List.getElem?_map]
  have e : (cutsP m n)[j]? = some (loP m n j, loP m n (j + 1)) := by
    unfold cutsP
    rw [List.getElem?_map, List.getElem?_range hj]
    rfl
  rw [e, Nat.zero_add]
  rfl
theorem ends_len {n m : Nat} {cs : List (Snd × Nat)} {zs : List (Int × (BD × Int))} {rs : List (List Int)} : (endsP n m cs zs rs).length = n := by
  unfold endsP cutsP
  rw [List.length_map, List.length_zipIdx, List.length_map, List.length_map, List.length_range]
theorem end_ok {n m : Nat} {cs : List (Snd × Nat)} {zs : List (Int × (BD × Int))} {rs : List (List Int)} (ri : RowsI n m rs) {j : Nat} (hj : j < n) : CellsI n (loP m n (j + 1) - loP m n j) (cellsP (j : Int) n cs (colP rs (loP m n j, loP m n (j + 1))) zs) :=
  cellsP_ok ri.some_ (colP_ok (z := (loP m n j, loP m n (j + 1))) ri ⟨loP_mono, loP_le hj⟩)
theorem row_long {n m : Nat} {cs : List (Snd × Nat)} {zs : List (Int × (BD × Int))} {rs : List (List Int)} (ri : RowsI n m rs) {i : Nat} (hi : i < n) : ∀ j, j ≤ n → (((endsP n m cs zs rs).take j).flatMap fun c => c.getD i []).length = loP m n j := by
  intro j
  induction j with
  | zero =>
    intro _
    rw [List.take_zero]
    show 0 = 0 * m / n
    rw [Nat.zero_mul, Nat.zero_div]
  | succ j ih =>
    intro hj
    have hj' : j < n := by omega
    have ok := end_ok (cs := cs) (zs := zs) ri hj'
    obtain ⟨row, er, lr⟩ := ok.at_ hi
    rw [take_snoc (ends_get hj'), List.flatMap_append, List.flatMap_cons, List.flatMap_nil, List.append_nil, List.length_append, ih (by omega), getD_of er, lr]
    have := loP_mono (m := m) (n := n) (i := j)
    omega
theorem row_len {n m : Nat} {cs : List (Snd × Nat)} {zs : List (Int × (BD × Int))} {rs : List (List Int)} (ri : RowsI n m rs) {i : Nat} (hi : i < n) : (rowP (endsP n m cs zs rs) i).length = m := by
  have h := row_long (cs := cs) (zs := zs) ri hi n (Nat.le_refl n)
  rw [List.take_of_length_le (by rw [ends_len]; exact Nat.le_refl n)] at h
  unfold rowP
  rw [h]
  unfold loP
  exact Nat.mul_div_cancel_left m ri.some_
theorem after_ok {n m : Nat} {cs : List (Snd × Nat)} {zs : List (Int × (BD × Int))} {rs : List (List Int)} (ri : RowsI n m rs) : RowsI n m (afterP n m cs zs rs) := by
  refine ⟨?_, ?_, ri.some_⟩
  · unfold afterP rowsP
    rw [List.length_map, List.length_range]
  · intro r hr
    unfold afterP rowsP at hr
    obtain ⟨i, hi, rfl⟩ := List.mem_map.mp hr
    exact row_len ri (List.mem_range.mp hi)
theorem row_any {n m : Nat} {cs : List (Snd × Nat)} {zs : List (Int × (BD × Int))} {rs : List (List Int)} (ri : RowsI n m rs) {i : Nat} : (rowP (endsP n m cs zs rs) i).length ≤ m := by
  by_cases hi : i < n
  · rw [row_len ri hi]
    exact Nat.le_refl m
  · have e : rowP (endsP n m cs zs rs) i = [] := by
      unfold rowP
      rw [List.flatMap_eq_nil_iff]
      intro c hc
      obtain ⟨j, hj⟩ := List.mem_iff_getElem?.mp hc
      have jn := (List.getElem?_eq_some_iff.mp hj).1
      rw [ends_len] at jn
      rw [ends_get jn] at hj
      cases hj
      rw [List.getD_eq_getElem?_getD, List.getElem?_eq_none (by rw [(end_ok ri jn).n]; omega)]
      rfl
    rw [e]
    exact Nat.zero_le m
def spAfter (K : PySem.W.Frag) (CB CL CF : Addr) : Sp := fun vs H Q _ => ∃ (a td cd : Addr) (us : List V) (rs : List (List Int)) (kvs : List (L2.Key × V)) (zs : List (Int × (BD × Int))) (cs : List (Snd × Nat)) (n m : Nat), vs = [.ref a, .ref td, .ref cd] ∧ SqA K H a us ∧ AllR (RowG K H) us rs ∧ RowsI n m rs ∧ n ≤ 1000 ∧ m ≤ 1000 ∧
  H td = some (.dK kvs) ∧ AllR (TurnE CB CL CF H) kvs zs ∧ H cd = some (.dT (cs.map entS)) ∧ (∀ c ∈ cs, c.2 ≤ 2) ∧
  ∀ p ws H', Same H H' → H p = none → H' p = some (.tup ws) → AllR (RowT K H') ws (afterP n m cs zs rs) → Q (.ref p) H'
theorem ok_rows_after (T : Txt K mg) (hST : ∀ l : LD, LI l → KDct K w T.A_STEPS l.w (.int (stepP l))) : FnOk P w K mg base CX0 5 T.a_rows_after T.d_rows_after ["rows", "turns", "comings"] (spAfter K T.c_Block T.c_Lane T.c_Form) := by
  have G_columns_of : FnOk P w K mg base CX0 2 T.a_columns_of T.d_columns_of ["rows"] (spColumnsOf K) := ok_columns_of T
  have G_rows_of : FnOk P w K mg base CX0 1 T.a_rows_of T.d_rows_of ["columns"] (spRowsOf K) := ok_rows_of T
  have G__cells_after : FnOk P w K mg base CX0 4 T.a__cells_after T.d__cells_after ["piece", "cells", "turns", "comings"] (spCells K T.c_Block T.c_Lane T.c_Form) := ok_cells_after T hST
  refine T.F_rows_after.ok sc_rows_after (fun vs H Q E h => ?_) (fun cdv A outer s H vs Q E hr h => ?_)
  · obtain ⟨a, td, cd, us, rs, kvs, zs, cs, n, m, rfl, _⟩ := h
    rfl
  · obtain ⟨a, td, cd, us, rs, kvs, zs, cs, n, m, rfl, ha, hus, ri, n1, m1, htd, hkv, hcd, c2, k⟩ := h
    have nd := sc_rows_after.nd
    refine ⟨_, (pss_one (ps_ret (pe_call G_rows_of (hr.mono (by first | decide | omega)) (by rfl) T.m_rows_of T.k_rows_of T.b_rows_of .nil pass0 (pa_cons (pe_lc (own := [("piece", 3), ("cells", 4)]) (g := (gTup K 2 (gCons (gName 3) (gCons (gName 4) gNil)))) (by rfl) nd (pi_enum (by rfl) T.z_enumerate (pa_cons (pe_call G_columns_of (hr.mono (by first | decide | omega)) (by rfl) T.m_columns_of T.k_columns_of T.b_columns_of .nil pass0 (pa_cons (pv 0) pa_nil)) pa_nil)) (blkOk_by (N := ["rows", "turns", "comings", "piece", "cells"]) (sc := defScope s_rows_after) (own := [("piece", 3), ("cells", 4)]) (by decide +kernel)) (fun _ _ _ _ _ => by exact (pg_tup rfl (pgs_cons (pg_name (i := 3) nd rfl (Or.inl rfl)) (pgs_cons (pg_name (i := 4) nd rfl (Or.inl rfl)) pgs_nil)))) (fun _ _ _ _ _ => by exact pts_nil) (fun _ _ _ _ _ => by exact (pe_call G__cells_after (hr.mono (by first | decide | omega)) (by rfl) T.m__cells_after T.k__cells_after T.b__cells_after .nil pass0 (pa_cons (pv 3) (pa_cons (pv 4) (pa_cons (pv 1) (pa_cons (pv 2) pa_nil))))))) pa_nil)))), ?_⟩
    refine ret_go ?_
    have lcu : (cutsP m n).length = n := by
      unfold cutsP
      rw [List.length_map, List.length_range]
    refine ⟨_, rfl, a, us, rs, n, m, rfl, ha, hus, ri, n1, m1, fun pc wc H1 s1 npc hpc hwc => ⟨pc, wc, rfl, SqL.of hpc, fun D nD => ?_⟩⟩
    have lw := hwc.length
    rw [List.length_map, lcu] at lw
    have n0 := ri.some_
    refine lc_it (walk_enum (xs := wc)) (fun i Hc => ∃ ws, Hc D = some (.lst ws) ∧ AllR (fun v c => ColV K Hc v c ∧ v ≠ .ref D) ws ((endsP n m cs zs rs).take i) ∧ Same H1 Hc) ⟨[], upd_same, .nil, same_new nD⟩ (fun i Hc _ hP => by obtain ⟨_, _, _, s⟩ := hP; exact SqL.of (s _ _ hpc)) (fun i v Hc H' hi hP hy => ?_) (fun Hc hP => ?_)
    · obtain ⟨ws, hD, hws, sc⟩ := hP
      obtain ⟨T', v1, v2, rfl, nT, rfl, h1, h2⟩ := hy
      cases h1
      have hi : i < n := by omega
      obtain ⟨col, ec, c, uc, rfl, hc, huc⟩ := hwc.get h2
      have ec' : col = colP rs (loP m n i, loP m n (i + 1)) := by
        have e : (cutsP m n)[i]? = some (loP m n i, loP m n (i + 1)) := by
          unfold cutsP
          rw [List.getElem?_map, List.getElem?_range hi]
          rfl
        rw [List.getElem?_map, e] at ec
        cases ec
        rfl
      subst ec'
      have s2 := same_new (o := .tup [.int ((i : Nat) : Int), .ref c]) nT
      have hT : upd Hc T' (.tup [.int ((i : Nat) : Int), .ref c]) T' = some (.tup [.int ((i : Nat) : Int), .ref c]) := upd_same
      generalize upd Hc T' (.tup [.int ((i : Nat) : Int), .ref c]) = H2 at s2 hT ⊢
      have sA := sc.trans s2
      have sB := s1.trans sA
      refine ⟨T', _, rfl, SqT.of hT, rfl, ⟨_, _, rfl, _, _, rfl, rfl, rfl, ?_⟩⟩
      have lws := hws.length
      rw [List.length_take, ends_len] at lws
      have hDn : H1 D = none := nD
      have hcD : c ≠ D := by
        rintro rfl
        rw [hDn] at hc
        cases hc
      have hD2 := s2 _ _ hD
      refine ⟨_, rfl, _, rfl, _, rfl, _, rfl, c, td, cd, uc, _, kvs, zs, cs, (i : Int), n, _, rfl, sA _ _ hc, huc.mono fun v r h => h.same sA, colP_ok (z := (loP m n i, loP m n (i + 1))) ri ⟨loP_mono, loP_le hi⟩, n1, ?_, n0, sB _ _ htd, hkv.mono fun e z h => ⟨h.1, h.2.same sB⟩, sB _ _ hcd, c2, fun r rr H3 s3 nr hr hrr => ?_⟩
      · have : loP m n (i + 1) ≤ m := loP_le hi
        show loP m n (i + 1) - loP m n i ≤ 1000
        omega
      · have hD3 := s3 _ _ hD2
        have rD : r ≠ D := by
          rintro rfl
          rcases nr with nr | nr
          · rw [hD2] at nr
            cases nr
          · exact hcD nr.symm
        refine ⟨ws, hD3, szl' (by omega), ws ++ [.ref r], upd_same, ?_, same_lst (sA.trans s3) hDn⟩
        have zz : Fz H3 (upd H3 D (.lst (ws ++ [.ref r]))) := Fz.lst hD3
        rw [take_snoc (ends_get hi)]
        exact AllR.snoc (hws.mono fun v r h => ⟨((h.1.same s2).same s3).at_ hD3 h.2, h.2⟩) ⟨⟨r, rr, rfl, by rw [upd_ne rD]; exact hr, hrr.mono fun v r h => h.fz zz⟩, fun e => rD (by cases e; rfl)⟩
    · obtain ⟨ws, hD, hws, sc⟩ := hP
      rw [lw, List.take_of_length_le (by rw [ends_len]; exact Nat.le_refl n)] at hws
      have sD := s1.trans sc
      refine ⟨D, ws, endsP n m cs zs rs, n, rfl, hD, hws.mono fun v r h => h.1, ends_len, fun c hc => ?_, n1, fun i => by have := row_any (cs := cs) (zs := zs) ri (i := i); omega, fun p wp H3 s3 np hp hwp => ?_⟩
      · obtain ⟨j, hj⟩ := List.mem_iff_getElem?.mp hc
        have jn := (List.getElem?_eq_some_iff.mp hj).1
        rw [ends_len] at jn
        rw [ends_get jn] at hj
        cases hj
        exact (end_ok ri jn).n
      · exact k p wp H3 (sD.trans s3) (sD.free np) hp hwp

end
end K17
namespace K17
open PySem PySem.Spec PyProof.Rows L2 Rs
local macro_rules | `(tactic| walk_at "om") => `(tactic| first | omega | (dsimp only; omega))
local macro_rules | `(tactic| walk_at "side") => `(tactic| first | omega | (dsimp only; omega) | decide | (unfold CMul; omega) | (unfold CDiv; omega) | (unfold CPow; omega) | exact wide_div (b := 64) (by omega) (by omega) (by decide) (by decide))
local macro_rules | `(tactic| walk_at "hp") => `(tactic| first | assumption | exact upd_same)
local macro_rules | `(tactic| walk_at "sq") => `(tactic| first | assumption | exact SqL.of (by assumption) | exact SqL.of upd_same)
local macro_rules | `(tactic| walk_at "st") => `(tactic| first
  | refine ⟨_, rfl, ?_⟩
  | (refine ⟨_, _, rfl, rfl, And.intro ?side ?_⟩; (case side => walk_at "side"))
  | refine ⟨_, _, rfl, rfl, ?_⟩
  | (refine' ⟨_, _, _, _, rfl, rfl, SqL.of ?hp, ?atx, ?_⟩; (case hp => walk_at "hp"); (case atx => exact rfl))
  | (refine' ⟨_, _, _, _, rfl, rfl, ?hp, ?atx, ?_⟩; (case hp => walk_at "hp"); (case atx => exact rfl))
  | (refine' ⟨_, _, rfl, Or.inl ?sq, ?_⟩; (case sq => walk_at "sq"))
  | refine Or.inl ⟨_, rfl, ?_⟩
  | refine Or.inr ⟨_, rfl, ?_⟩)
local macro_rules | `(tactic| walk_at "evd") => `(tactic| first
  | exact evd_int
  | exact evd_str
  | exact evd_non
  | exact evd_bl
  | exact evd_nil
  | (refine evd_cons ?_ (fun _ => ?_) <;> walk_at "evd")
  | (refine evd_tup ?_ (Nat.le_of_ble_eq_true rfl); walk_at "evd"))

section
variable {P : Program} {w : World} {K : PySem.W.Frag} {mg : Str → Option Value} {base : Heap}
/-! is there the sending of a slip -/
structure SD where
  k : Str
  t : Int
  m : Int
  l : Int
def fldSl (d : SD) : List (Str × V) := [("kind", .str d.k), ("turn", .int d.t), ("machine", .int d.m), ("lane", .int d.l)]
def SlipO (CS : Addr) (H : Hp) (v : V) (d : SD) : Prop := ∃ x dx, v = .ref x ∧ H x = some (.ins CS dx (fldSl d))
def isThere (zs : List (Int × (BD × Int))) (n : Int) (d : SD) : Bool := match zs.find? fun z => decide (z.1 = d.t) with
  | none => false
  | some z => decide (d.m < n) && decide (d.l < (z.2.1.ls.length : Int))
theorem turn_find {CB CL CF : Addr} {H : Hp} {kvs : List (L2.Key × V)} {zs : List (Int × (BD × Int))} {t : Int} (h : AllR (TurnE CB CL CF H) kvs zs) : (zs.find? (fun z => decide (z.1 = t)) = none ∧ valV kvs (.inl t) = none) ∨ ∃ z v, zs.find? (fun z => decide (z.1 = t)) = some z ∧ valV kvs (.inl t) = some v ∧ TurnV CB CL CF H v z.2 := by
  induction h with
  | nil => exact .inl ⟨rfl, rfl⟩
  | cons e _ ih =>
    rename_i a b as bs hh
    obtain ⟨e1, e2⟩ := e
    by_cases q : b.1 = t
    · refine .inr ⟨b, a.2, List.find?_cons_of_pos (by rw [decide_eq_true_eq]; exact q), valV_pos (by rw [e1, q]), e2⟩
    · rw [List.find?_cons_of_neg (by rw [decide_eq_true_eq]; exact q), valV_neg (by rw [e1]; intro z; exact q (Sum.inl.inj z))]
      exact ih
def spIsThere (CS CB CL CF : Addr) : Sp := fun vs H Q _ => ∃ (v : V) (sd : SD) (td : Addr) (n : Int) (kvs : List (L2.Key × V)) (zs : List (Int × (BD × Int))), vs = [v, .ref td, .int n] ∧ SlipO CS H v sd ∧ H td = some (.dK kvs) ∧ AllR (TurnE CB CL CF H) kvs zs ∧ Q (.bl (isThere zs n sd)) H
theorem ok_is_there (T : Txt K mg) : FnOk P w K mg base CX0 1 T.a__is_there T.d__is_there ["slip", "turns", "n"] (spIsThere T.c_Slip T.c_Block T.c_Lane T.c_Form) := by
  refine T.F__is_there.ok sc__is_there (fun vs H Q E h => ?_) (fun cdv A outer s H vs Q E hr h => ?_)
  · obtain ⟨v, sd, td, n, kvs, zs, rfl, _⟩ := h
    rfl
  · obtain ⟨v, sd, td, n, kvs, zs, rfl, ⟨x, dx, rfl, hx⟩, htd, hkv, k⟩ := h
    have nd := sc__is_there.nd
    refine ⟨_, (pss_cons (ps_if (PW.pt (pw_or (pt_cmpR (op_notInDict (un1 hr)) (pe_fld (pv 0) rfl) (pv 1) (by rfl)) (pw_or1 (pt_cmpR op_ge (pe_fld (pv 0) rfl) (pv 2) (nomark _))))) (pss_one (ps_ret pe_bl)) pss_nil)
    (pss_cons (ps_asg ((pe_dget (un1 hr) (pv 1) (pe_fld (pv 0) rfl) (fun _ _ => rfl))) (pg_tup rfl (pgs_cons (pg_name (i := 3) nd rfl (Or.inl rfl)) (pgs_cons (pg_name (i := 4) nd rfl (Or.inl rfl)) pgs_nil))))
    (pss_one (ps_ret (pe_cmpR op_lt (pe_fld (pv 0) rfl) (pe_callB call_len_seq (by rfl) T.z_len (by decide +kernel) (pa_cons (pe_fld (pv 3) rfl) pa_nil)) (nomark _)))))), ?_⟩
    have eD : (isThere zs n sd) = isThere zs n sd := rfl
    rcases turn_find (t := sd.t) hkv with ⟨ef, ev⟩ | ⟨z, v, ef, ev, q, u, rfl, hq, hb⟩
    · have eI : isThere zs n sd = false := by
        unfold isThere
        rw [ef]
      rw [eI] at k
      refine ifs_go ?_
      refine ⟨_, rfl, x, _, dx, _, _, rfl, hx, T.C_Slip, T.n_Slip_turn, rfl, _, rfl, td, none, rfl, ?_, ?_⟩
      · rw [← ev]
        show DGet H td (kV (.inl sd.t)) _
        exact DGet.k htd
      · refine ⟨true, rfl, ?_⟩
        exact k
    · have eI : isThere zs n sd = (decide (sd.m < n) && decide (sd.l < (z.2.1.ls.length : Int))) := by
        unfold isThere
        rw [ef]
      rw [eI] at k
      obtain ⟨xb, dxb, yb, tpb, ub, rfl, hxb, hyb, htb, hab, dbi⟩ := id hb
      have lb := hab.length
      refine ifs_go ?_
      refine ⟨_, rfl, x, _, dx, _, _, rfl, hx, T.C_Slip, T.n_Slip_turn, rfl, _, rfl, td, some (.ref q), rfl, ?_, ?_⟩
      · rw [← ev]
        show DGet H td (kV (.inl sd.t)) _
        exact DGet.k htd
      · refine ⟨false, rfl, ?_⟩
        refine ⟨_, rfl, x, _, dx, _, _, rfl, hx, T.C_Slip, T.n_Slip_machine, rfl, _, rfl, _, _, rfl, rfl, decide (n ≤ sd.m), rfl, ?_⟩
        refine ifD (fun e => ?_) (fun e => ?_)
        · have : decide (sd.m < n) = false := decide_eq_false (by omega)
          rw [this, Bool.false_and] at k
          exact ret_go k
        · have : decide (sd.m < n) = true := decide_eq_true (by omega)
          rw [this, Bool.true_and] at k
          dsimp only [tNext]
          refine asg_go ?_
          refine ⟨_, rfl, _, rfl, x, _, dx, _, _, rfl, hx, T.C_Slip, T.n_Slip_turn, rfl, td, .ref q, rfl, ?_, ?_⟩
          · rw [← ev]
            show DGet H td (kV (.inl sd.t)) _
            exact DGet.k htd
          · refine ⟨q, _, rfl, SqT.of hq, rfl, ⟨_, _, rfl, _, _, rfl, rfl, ?_⟩⟩
            dsimp only [gName]
            refine ret_go ?_
            refine ⟨_, rfl, x, _, dx, _, _, rfl, hx, T.C_Slip, T.n_Slip_lane, rfl, _, rfl, xb, _, dxb, _, _, rfl, hxb, T.C_Block, T.n_Block_lanes, rfl, tpb, ub, rfl, .inr (SqT.of htb), _, _, rfl, rfl, ?_⟩
            rw [lb]
            exact k

end
end K17
namespace K17
open PySem PySem.Spec PyProof.Rows L2 Rs
local macro_rules | `(tactic| walk_at "om") => `(tactic| first | omega | (dsimp only; omega))
local macro_rules | `(tactic| walk_at "side") => `(tactic| first | omega | (dsimp only; omega) | decide | (unfold CMul; omega) | (unfold CDiv; omega) | (unfold CPow; omega) | exact wide_div (b := 64) (by omega) (by omega) (by decide) (by decide))
local macro_rules | `(tactic| walk_at "hp") => `(tactic| first | assumption | exact upd_same)
local macro_rules | `(tactic| walk_at "sq") => `(tactic| first | assumption | exact SqL.of (by assumption) | exact SqL.of upd_same)
local macro_rules | `(tactic| walk_at "st") => `(tactic| first
  | refine ⟨_, rfl, ?_⟩
  | (refine ⟨_, _, rfl, rfl, And.intro ?side ?_⟩; (case side => walk_at "side"))
  | refine ⟨_, _, rfl, rfl, ?_⟩
  | (refine' ⟨_, _, _, _, rfl, rfl, SqL.of ?hp, ?atx, ?_⟩; (case hp => walk_at "hp"); (case atx => exact rfl))
  | (refine' ⟨_, _, _, _, rfl, rfl, ?hp, ?atx, ?_⟩; (case hp => walk_at "hp"); (case atx => exact rfl))
  | (refine' ⟨_, _, rfl, Or.inl ?sq, ?_⟩; (case sq => walk_at "sq"))
  | refine Or.inl ⟨_, rfl, ?_⟩
  | refine Or.inr ⟨_, rfl, ?_⟩)
local macro_rules | `(tactic| walk_at "evd") => `(tactic| first
  | exact evd_int
  | exact evd_str
  | exact evd_non
  | exact evd_bl
  | exact evd_nil
  | (refine evd_cons ?_ (fun _ => ?_) <;> walk_at "evd")
  | (refine evd_tup ?_ (Nat.le_of_ble_eq_true rfl); walk_at "evd"))

section
variable {P : Program} {w : World} {K : PySem.W.Frag} {mg : Str → Option Value} {base : Heap}
/-! how often each sending with a slip comes -/
def comeV (k : Str) : Nat := if k = Str.ofString "again" then 2 else 0
def sndS (d : SD) : Snd := (d.t, d.m, d.l)
def slipsP (zs : List (Int × (BD × Int))) (n : Int) : Nat → List (Snd × Nat) → List SD → Sum Nat (List (Snd × Nat))
  | _, acc, [] => .inr acc
  | i, acc, d :: ds => if (acc.any fun c => decide (c.1 = sndS d)) || !isThere zs n d then .inl i else slipsP zs n (i + 1) (acc ++ [(sndS d, comeV d.k)]) ds
def KindOk (d : SD) : Prop := d.k = Str.ofString "again" ∨ d.k = Str.ofString "lost"
def spComings (K : PySem.W.Frag) (CR CS CB CL CF : Addr) : Sp := fun vs H Q E => ∃ (a td : Addr) (n : Int) (us : List V) (ds : List SD) (kvs : List (L2.Key × V)) (zs : List (Int × (BD × Int))), vs = [.ref a, .ref td, .int n] ∧ SqA K H a us ∧ AllR (SlipO CS H) us ds ∧ ds.length ≤ 10000 ∧ (∀ d ∈ ds, KindOk d) ∧ H td = some (.dK kvs) ∧ AllR (TurnE CB CL CF H) kvs zs ∧
  (∀ cs p H', slipsP zs n 0 [] ds = .inr cs → Same H H' → H p = none → H' p = some (.dT (cs.map entS)) → Q (.ref p) H') ∧
  (∀ i H' d, slipsP zs n 0 [] ds = .inl i → Same H H' → H' d = none → E (.ref CR) (some d) (upd H' d (.xd [("at", .int (i : Int))])))
theorem anyS {cs : List (Snd × Nat)} {k : Snd} : (valV (cs.map entS) (keyS k)).isSome = cs.any fun c => decide (c.1 = k) := by
  induction cs with
  | nil => rfl
  | cons c cs ih =>
    rw [List.map_cons, List.any_cons]
    by_cases e : c.1 = k
    · rw [valV_pos (show (entS c).1 = keyS k by rw [← e]; rfl), decide_eq_true e]
      rfl
    · rw [valV_neg (fun h => e (keyS_inj h)), ih, decide_eq_false e, Bool.false_or]
theorem ok_excR (T : Txt K mg) : FnOk P w K mg base CX0 1 T.a_Refused___init__ T.d_Refused___init__ ["self", "at"] (spExc T.c_Refused "at") := by
  refine T.F_Refused___init__.ok sc_Refused___init__ (fun vs H Q E h => ?_) (fun cdv A outer s H vs Q E hr h => ?_)
  · obtain ⟨a, v, rfl, _⟩ := h
    rfl
  · obtain ⟨a, v, rfl, ha, k⟩ := h
    refine ⟨_, pss_one (ps_ost (pv 0) (pv 1)), ?_⟩
    exact ⟨_, rfl, _, rfl, a, T.c_Refused, rfl, T.x_Refused, T.n_Refused, .inl ⟨ha, fun dx hd ne => k dx hd ne⟩⟩
theorem ok_comings_of (T : Txt K mg) (hCM : ∀ d : SD, KindOk d → KDct K w T.A_COMINGS d.k (.int (comeV d.k : Int))) : FnOk P w K mg base (L2.CX P w) 3 T.a_comings_of T.d_comings_of ["slips", "turns", "n"] (spComings K T.c_Refused T.c_Slip T.c_Block T.c_Lane T.c_Form) := by
  have G__is_there : FnOk P w K mg base CX0 1 T.a__is_there T.d__is_there ["slip", "turns", "n"] (spIsThere T.c_Slip T.c_Block T.c_Lane T.c_Form) := ok_is_there T
  have GE_Refused : FnOk P w K mg base CX0 1 T.a_Refused___init__ T.d_Refused___init__ ["self", "at"] (spExc T.c_Refused "at") := ok_excR T
  refine T.F_comings_of.okX sc_comings_of (fun vs H Q E h => ?_) (fun cdv A outer s H vs Q E hr h => ?_)
  · obtain ⟨a, td, n, us, ds, kvs, zs, rfl, _⟩ := h
    rfl
  · obtain ⟨a, td, n, us, ds, kvs, zs, rfl, ha, hus, l1, hk, htd, hkv, k1, k2⟩ := h
    have nd := sc_comings_of.nd
    refine ⟨_, (pss_cons (ps_set (i := 3) nd rfl (Or.inl rfl) (pe_dnewT))
    (pss_cons (ps_for (passes_of rfl) rfl (pi_enumA (by rfl) T.z_enumerate (pa_cons (pv 0) pa_nil)) (pg_tup rfl (pgs_cons (pg_name (i := 4) nd rfl (Or.inl rfl)) (pgs_cons (pg_name (i := 5) nd rfl (Or.inl rfl)) pgs_nil)))
    (pss_cons (ps_set (i := 6) nd rfl (Or.inl rfl) (pe_tup (pa_cons (pe_fld (pv 5) rfl) (pa_cons (pe_fld (pv 5) rfl) (pa_cons (pe_fld (pv 5) rfl) pa_nil)))))
    (pss_cons (ps_if (PW.pt (pw_or (pt_cmpR (op_inDict (un1 hr)) (pv 6) (pv 3) (by rfl)) (pw_or1 (pt_not (pt_val (pe_call G__is_there (hr.mono (by first | decide | omega)) (by rfl) T.m__is_there T.k__is_there T.b__is_there .nil pass0 (pa_cons (pv 5) (pa_cons (pv 1) (pa_cons (pv 2) pa_nil))))))))) (pss_one (ps_raise rfl (takes_of rfl rfl rfl rfl) (pmk_oex T.x_Refused T.i_Refused T.t_Refused GE_Refused (hr.mono (by first | decide | omega)) T.b_Refused___init__ .nil pass0 (by rfl) T.m_Refused (pa_cons (pv 4) pa_nil)))) pss_nil)
    (pss_one (ps_dput (un1 hr) (pv 3) (pv 6) ((pe_ix (ix_kdict) (pe_glob rfl T.m_COMINGS (rel_ref _)) (pe_fld (pv 5) rfl) (fun _ _ => rfl))) (by rfl))))))
    (pss_one (ps_ret (pv 3))))), ?_⟩
    have lu := hus.length
    refine asg_go ?_
    refine fun D nD => ?_
    have s0 := same_new (o := .dT []) nD
    have hD0 : upd H D (.dT []) D = some (.dT (([] : List (Snd × Nat)).map entS)) := upd_same
    generalize upd H D (.dT []) = H0 at s0 hD0 ⊢
    dsimp only [gName]
    refine ⟨_, rfl, a, rfl, ?_⟩
    rcases ha with ha | ha
    · refine .inl ⟨us, s0.seq ha, for_it (walk_enum (xs := us)) (fun i σ Hc => ∃ y4 y5 y6 acc, σ = [some (.ref a), some (.ref td), some (.int n), some (.ref D), y4, y5, y6] ∧ Hc D = some (.dT (acc.map entS)) ∧ slipsP zs n 0 [] ds = slipsP zs n i acc (ds.drop i) ∧ acc.length ≤ i ∧ Same H Hc)
        ⟨none, none, none, [], rfl, hD0, rfl, Nat.zero_le _, s0⟩ (fun i σ Hc _ hR => by obtain ⟨_, _, _, _, _, _, _, _, s⟩ := hR; exact s.seq ha) (fun i v σ Hc H1 hi hP hy => ?_) (fun σ Hc hP => ?_)⟩
      · obtain ⟨y4, y5, y6, acc, rfl, hD, eS, la, sc⟩ := hP
        obtain ⟨T', v1, v2, rfl, nT, rfl, h1, h2⟩ := hy
        cases h1
        obtain ⟨d, ed, x, dx, rfl, hx⟩ := hus.get h2
        have s1 := same_new (o := .tup [.int ((i : Nat) : Int), .ref x]) nT
        have hT : upd Hc T' (.tup [.int ((i : Nat) : Int), .ref x]) T' = some (.tup [.int ((i : Nat) : Int), .ref x]) := upd_same
        generalize upd Hc T' (.tup [.int ((i : Nat) : Int), .ref x]) = H2 at s1 hT ⊢
        have sA := sc.trans s1
        refine ⟨T', _, rfl, SqT.of hT, rfl, ⟨_, _, rfl, _, _, rfl, rfl, ?_⟩⟩
        dsimp only [gName]
        refine asg_go ?_
        have hx2 := sA _ _ hx
        refine ⟨_, rfl, x, _, dx, _, _, rfl, hx2, T.C_Slip, T.n_Slip_turn, rfl, _, rfl, x, _, dx, _, _, rfl, hx2, T.C_Slip, T.n_Slip_machine, rfl, _, rfl, x, _, dx, _, _, rfl, hx2, T.C_Slip, T.n_Slip_lane, rfl, szL (Nat.le_of_ble_eq_true rfl), fun q nq => ?_⟩
        have s2 := same_new (o := .tup [.int d.t, .int d.m, .int d.l]) nq
        have hq : upd H2 q (.tup [.int d.t, .int d.m, .int d.l]) q = some (.tup ((keyS (sndS d)).map kV)) := upd_same
        generalize upd H2 q (.tup [.int d.t, .int d.m, .int d.l]) = H3 at s2 hq ⊢
        dsimp only [gName]
        have hD3 := s2 _ _ (s1 _ _ hD)
        have sB := sA.trans s2
        have sC := s1.trans s2
        have edrop : ds.drop i = d :: ds.drop (i + 1) := by
          obtain ⟨hi2, e⟩ := List.getElem?_eq_some_iff.mp ed
          rw [List.drop_eq_getElem_cons hi2, e]
        have stepE : slipsP zs n 0 [] ds = if (acc.any fun c => decide (c.1 = sndS d)) || !isThere zs n d then .inl i else slipsP zs n (i + 1) (acc ++ [(sndS d, comeV d.k)]) (ds.drop (i + 1)) := by
          rw [eS, edrop]
          rfl
        have iu := (List.getElem?_eq_some_iff.mp ed).1
        refine ifs_go ?_
        refine ⟨_, rfl, _, rfl, D, _, rfl, DGet.t hD3 hq, acc.any (fun c => decide (c.1 = sndS d)), by rw [anyS], ?_⟩
        cases ea : acc.any (fun c => decide (c.1 = sndS d)) with
        | true =>
          refine ifT rfl ?_
          refine ⟨_, rfl, make_exc (v := .int i) (σ := []) fun d' hd => k2 i _ d' (by rw [stepE, ea]; rfl) sB hd⟩
        | false =>
          refine ifF (by simp) ?_
          refine ⟨_, rfl, _, rfl, _, rfl, .ref x, d, td, n, kvs, zs, rfl, ⟨x, dx, rfl, sB _ _ hx⟩, sB _ _ htd, hkv.mono fun e z h => ⟨h.1, h.2.same sB⟩, isThere zs n d, rfl, ?_⟩
          cases eb : isThere zs n d with
          | false =>
            refine ifT rfl ?_
            refine ⟨_, rfl, make_exc (v := .int i) (σ := []) fun d' hd => k2 i _ d' (by rw [stepE, ea, eb]; rfl) sB hd⟩
          | true =>
            refine ifF (by simp) ?_
            dsimp only [tNext]
            have no : valV (acc.map entS) (keyS (sndS d)) = none := by
              have := anyS (cs := acc) (k := sndS d)
              rw [ea] at this
              exact Option.isNone_iff_eq_none.mp (by rw [← Option.not_isSome, this]; rfl)
            have put : putK (acc.map entS) (keyS (sndS d)) (.int (comeV d.k : Int)) = (acc ++ [(sndS d, comeV d.k)]).map entS := by
              rw [putK_new _ no, List.map_append]
              rfl
            refine ⟨_, rfl, x, _, dx, _, _, rfl, sB _ _ hx, T.C_Slip, T.n_Slip_kind, rfl, T.A_COMINGS, d.k, .int (comeV d.k : Int), rfl, rfl, hCM d (hk d (List.mem_of_getElem? ed)), _, rfl, _, rfl, D, _, rfl, DPut.t hD3 hq (szl' (by rw [List.length_map]; omega)), ?_⟩
            refine ⟨_, _, _, acc ++ [(sndS d, comeV d.k)], rfl, by rw [upd_same, put], ?_, by rw [List.length_append, List.length_singleton]; omega, same_lst sB nD⟩
            rw [stepE, ea, eb]
            rfl
      · obtain ⟨y4, y5, y6, acc, rfl, hD, eS, la, sc⟩ := hP
        rw [List.drop_eq_nil_of_le (by omega)] at eS
        dsimp only
        refine ret_go ⟨_, rfl, ?_⟩
        exact k1 acc D Hc eS sc nD hD
    · refine .inr ⟨us, Same.seqT s0 ha, for_it (Rs.walk_enumT (xs := us)) (fun i σ Hc => ∃ y4 y5 y6 acc, σ = [some (.ref a), some (.ref td), some (.int n), some (.ref D), y4, y5, y6] ∧ Hc D = some (.dT (acc.map entS)) ∧ slipsP zs n 0 [] ds = slipsP zs n i acc (ds.drop i) ∧ acc.length ≤ i ∧ Same H Hc)
        ⟨none, none, none, [], rfl, hD0, rfl, Nat.zero_le _, s0⟩ (fun i σ Hc _ hR => by obtain ⟨_, _, _, _, _, _, _, _, s⟩ := hR; exact Same.seqT s ha) (fun i v σ Hc H1 hi hP hy => ?_) (fun σ Hc hP => ?_)⟩
      · obtain ⟨y4, y5, y6, acc, rfl, hD, eS, la, sc⟩ := hP
        obtain ⟨T', v1, v2, rfl, nT, rfl, h1, h2⟩ := hy
        cases h1
        obtain ⟨d, ed, x, dx, rfl, hx⟩ := hus.get h2
        have s1 := same_new (o := .tup [.int ((i : Nat) : Int), .ref x]) nT
        have hT : upd Hc T' (.tup [.int ((i : Nat) : Int), .ref x]) T' = some (.tup [.int ((i : Nat) : Int), .ref x]) := upd_same
        generalize upd Hc T' (.tup [.int ((i : Nat) : Int), .ref x]) = H2 at s1 hT ⊢
        have sA := sc.trans s1
        refine ⟨T', _, rfl, SqT.of hT, rfl, ⟨_, _, rfl, _, _, rfl, rfl, ?_⟩⟩
        dsimp only [gName]
        refine asg_go ?_
        have hx2 := sA _ _ hx
        refine ⟨_, rfl, x, _, dx, _, _, rfl, hx2, T.C_Slip, T.n_Slip_turn, rfl, _, rfl, x, _, dx, _, _, rfl, hx2, T.C_Slip, T.n_Slip_machine, rfl, _, rfl, x, _, dx, _, _, rfl, hx2, T.C_Slip, T.n_Slip_lane, rfl, szL (Nat.le_of_ble_eq_true rfl), fun q nq => ?_⟩
        have s2 := same_new (o := .tup [.int d.t, .int d.m, .int d.l]) nq
        have hq : upd H2 q (.tup [.int d.t, .int d.m, .int d.l]) q = some (.tup ((keyS (sndS d)).map kV)) := upd_same
        generalize upd H2 q (.tup [.int d.t, .int d.m, .int d.l]) = H3 at s2 hq ⊢
        dsimp only [gName]
        have hD3 := s2 _ _ (s1 _ _ hD)
        have sB := sA.trans s2
        have sC := s1.trans s2
        have edrop : ds.drop i = d :: ds.drop (i + 1) := by
          obtain ⟨hi2, e⟩ := List.getElem?_eq_some_iff.mp ed
          rw [List.drop_eq_getElem_cons hi2, e]
        have stepE : slipsP zs n 0 [] ds = if (acc.any fun c => decide (c.1 = sndS d)) || !isThere zs n d then .inl i else slipsP zs n (i + 1) (acc ++ [(sndS d, comeV d.k)]) (ds.drop (i + 1)) := by
          rw [eS, edrop]
          rfl
        have iu := (List.getElem?_eq_some_iff.mp ed).1
        refine ifs_go ?_
        refine ⟨_, rfl, _, rfl, D, _, rfl, DGet.t hD3 hq, acc.any (fun c => decide (c.1 = sndS d)), by rw [anyS], ?_⟩
        cases ea : acc.any (fun c => decide (c.1 = sndS d)) with
        | true =>
          refine ifT rfl ?_
          refine ⟨_, rfl, make_exc (v := .int i) (σ := []) fun d' hd => k2 i _ d' (by rw [stepE, ea]; rfl) sB hd⟩
        | false =>
          refine ifF (by simp) ?_
          refine ⟨_, rfl, _, rfl, _, rfl, .ref x, d, td, n, kvs, zs, rfl, ⟨x, dx, rfl, sB _ _ hx⟩, sB _ _ htd, hkv.mono fun e z h => ⟨h.1, h.2.same sB⟩, isThere zs n d, rfl, ?_⟩
          cases eb : isThere zs n d with
          | false =>
            refine ifT rfl ?_
            refine ⟨_, rfl, make_exc (v := .int i) (σ := []) fun d' hd => k2 i _ d' (by rw [stepE, ea, eb]; rfl) sB hd⟩
          | true =>
            refine ifF (by simp) ?_
            dsimp only [tNext]
            have no : valV (acc.map entS) (keyS (sndS d)) = none := by
              have := anyS (cs := acc) (k := sndS d)
              rw [ea] at this
              exact Option.isNone_iff_eq_none.mp (by rw [← Option.not_isSome, this]; rfl)
            have put : putK (acc.map entS) (keyS (sndS d)) (.int (comeV d.k : Int)) = (acc ++ [(sndS d, comeV d.k)]).map entS := by
              rw [putK_new _ no, List.map_append]
              rfl
            refine ⟨_, rfl, x, _, dx, _, _, rfl, sB _ _ hx, T.C_Slip, T.n_Slip_kind, rfl, T.A_COMINGS, d.k, .int (comeV d.k : Int), rfl, rfl, hCM d (hk d (List.mem_of_getElem? ed)), _, rfl, _, rfl, D, _, rfl, DPut.t hD3 hq (szl' (by rw [List.length_map]; omega)), ?_⟩
            refine ⟨_, _, _, acc ++ [(sndS d, comeV d.k)], rfl, by rw [upd_same, put], ?_, by rw [List.length_append, List.length_singleton]; omega, same_lst sB nD⟩
            rw [stepE, ea, eb]
            rfl
      · obtain ⟨y4, y5, y6, acc, rfl, hD, eS, la, sc⟩ := hP
        rw [List.drop_eq_nil_of_le (by omega)] at eS
        dsimp only
        refine ret_go ⟨_, rfl, ?_⟩
        exact k1 acc D Hc eS sc nD hD

end
end K17
namespace K17
open PySem PySem.Spec PyProof.Rows L2 Rs
local macro_rules | `(tactic| walk_at "om") => `(tactic| first | omega | (dsimp only; omega))
local macro_rules | `(tactic| walk_at "side") => `(tactic| first | omega | (dsimp only; omega) | decide | (unfold CMul; omega) | (unfold CDiv; omega) | (unfold CPow; omega) | exact wide_div (b := 64) (by omega) (by omega) (by decide) (by decide))
local macro_rules | `(tactic| walk_at "hp") => `(tactic| first | assumption | exact upd_same)
local macro_rules | `(tactic| walk_at "sq") => `(tactic| first | assumption | exact SqL.of (by assumption) | exact SqL.of upd_same)
local macro_rules | `(tactic| walk_at "st") => `(tactic| first
  | refine ⟨_, rfl, ?_⟩
  | (refine ⟨_, _, rfl, rfl, And.intro ?side ?_⟩; (case side => walk_at "side"))
  | refine ⟨_, _, rfl, rfl, ?_⟩
  | (refine' ⟨_, _, _, _, rfl, rfl, SqL.of ?hp, ?atx, ?_⟩; (case hp => walk_at "hp"); (case atx => exact rfl))
  | (refine' ⟨_, _, _, _, rfl, rfl, ?hp, ?atx, ?_⟩; (case hp => walk_at "hp"); (case atx => exact rfl))
  | (refine' ⟨_, _, rfl, Or.inl ?sq, ?_⟩; (case sq => walk_at "sq"))
  | refine Or.inl ⟨_, rfl, ?_⟩
  | refine Or.inr ⟨_, rfl, ?_⟩)
local macro_rules | `(tactic| walk_at "evd") => `(tactic| first
  | exact evd_int
  | exact evd_str
  | exact evd_non
  | exact evd_bl
  | exact evd_nil
  | (refine evd_cons ?_ (fun _ => ?_) <;> walk_at "evd")
  | (refine evd_tup ?_ (Nat.le_of_ble_eq_true rfl); walk_at "evd"))

section
variable {P : Program} {w : World} {K : PySem.W.Frag} {mg : Str → Option Value} {base : Heap}
/-! how a play ended -/
def fldPl (a b : Addr) (r : Bool) (c : Addr) : List (Str × V) := [("rows", .ref a), ("sums", .ref b), ("is_right", .bl r), ("sent", .ref c)]
theorem sqT_off {K : PySem.W.Frag} {H : Hp} {x C dx a : Addr} {fs : List (Str × V)} {o : HO} {xs : List V} (h : SqT K H a xs) (hx : H x = some (.ins C dx fs)) : SqT K (upd H x o) a xs := by
  rcases h with (hp | ⟨o', hp⟩) | hp
  · refine .inl (.inl ?_)
    rw [upd_ne (by rintro rfl; rw [hx] at hp; cases hp)]
    exact hp
  · refine .inl (.inr ⟨o', ?_⟩)
    rw [upd_ne (by rintro rfl; rw [hx] at hp; cases hp)]
    exact hp
  · exact .inr hp
theorem RowT.off {K : PySem.W.Frag} {H : Hp} {x C dx : Addr} {fs : List (Str × V)} {o : HO} {v : V} {r : List Int} (h : RowT K H v r) (hx : H x = some (.ins C dx fs)) : RowT K (upd H x o) v r := by
  obtain ⟨p, e, hp⟩ := h
  exact ⟨p, e, sqT_off hp hx⟩
def spPlayedI (K : PySem.W.Frag) (CP : Addr) : Sp := fun vs H Q _ => ∃ (x dx a b c : Addr) (us : List V) (rs : List (List Int)) (ss : List Int), vs = [.ref x, .ref a, .ref b, .ref c] ∧ H x = some (.ins CP dx []) ∧ SqT K H a us ∧ AllR (RowT K H) us rs ∧ SqT K H b (ss.map V.int) ∧ us.length ≤ 1000 ∧
  ∀ H', (∀ y o, y ≠ x → H y = some o → H' y = some o) → H' x = some (.ins CP dx (fldPl a b (rs.all fun r => decide (r = ss)) c)) → Q .non H'
theorem ok_playedI (T : Txt K mg) : FnOk P w K mg base CX0 2 T.a_Played___init__ T.d_Played___init__ ["self", "rows", "sums", "sent"] (spPlayedI K T.c_Played) := by
  have G_are_all : FnOk P w K mg base CX0 1 T.a_are_all T.d_are_all ["rows", "sums"] (spAreAll K) := ok_are_all T
  refine T.F_Played___init__.ok sc_Played___init__ (fun vs H Q E h => ?_) (fun cdv A outer s H vs Q E hr h => ?_)
  · obtain ⟨x, dx, a, b, c, us, rs, ss, rfl, _⟩ := h
    rfl
  · obtain ⟨x, dx, a, b, c, us, rs, ss, rfl, hx, ha, hus, hb, l1, k⟩ := h
    have nd := sc_Played___init__.nd
    refine ⟨_, (pss_cons (ps_fld (pv 0) (pv 1) rfl)
    (pss_cons (ps_fld (pv 0) (pv 2) rfl)
    (pss_cons (ps_fld (pv 0) (pe_call G_are_all (hr.mono (by first | decide | omega)) (by rfl) T.m_are_all T.k_are_all T.b_are_all .nil pass0 (pa_cons (pv 1) (pa_cons (pv 2) pa_nil))) rfl)
    (pss_one (ps_fld (pv 0) (pv 3) rfl))))), ?_⟩
    have far : ∀ (fs : List (Str × V)) y o, y ≠ x → H y = some o → upd H x (.ins T.c_Played dx fs) y = some o := fun fs y o n e => by rw [upd_ne n]; exact e
    refine ⟨_, rfl, _, rfl, x, T.c_Played, dx, _, rfl, hx, T.C_Played, T.n_Played_rows, by decide, ?_⟩
    refine ⟨_, rfl, _, rfl, x, T.c_Played, dx, _, rfl, upd_same, T.C_Played, T.n_Played_sums, by show 1 < 1000; decide, ?_⟩
    dsimp only
    rw [upd_upd]
    refine ⟨_, rfl, _, rfl, a, b, us, rs, ss, rfl, sqT_off ha hx, hus.mono fun v r h => h.off hx, sqT_off hb hx, l1, fun H1 s1 => ?_⟩
    have hx1 := s1 _ _ (upd_same (H := H))
    refine ⟨_, rfl, x, T.c_Played, dx, _, rfl, hx1, T.C_Played, T.n_Played_is_right, by show 2 < 1000; decide, ?_⟩
    refine ⟨_, rfl, _, rfl, x, T.c_Played, dx, _, rfl, upd_same, T.C_Played, T.n_Played_sent, by show 3 < 1000; decide, ?_⟩
    show Q .non _
    rw [upd_upd]
    refine k _ (fun y o n e => ?_) upd_same
    rw [upd_ne n]
    exact s1 _ _ (far _ y o n e)

end
end K17
namespace K17
open PySem PySem.Spec PyProof.Rows L2 Rs
local macro_rules | `(tactic| walk_at "om") => `(tactic| first | omega | (dsimp only; omega))
local macro_rules | `(tactic| walk_at "side") => `(tactic| first | omega | (dsimp only; omega) | decide | (unfold CMul; omega) | (unfold CDiv; omega) | (unfold CPow; omega) | exact wide_div (b := 64) (by omega) (by omega) (by decide) (by decide))
local macro_rules | `(tactic| walk_at "hp") => `(tactic| first | assumption | exact upd_same)
local macro_rules | `(tactic| walk_at "sq") => `(tactic| first | assumption | exact SqL.of (by assumption) | exact SqL.of upd_same)
local macro_rules | `(tactic| walk_at "st") => `(tactic| first
  | refine ⟨_, rfl, ?_⟩
  | (refine ⟨_, _, rfl, rfl, And.intro ?side ?_⟩; (case side => walk_at "side"))
  | refine ⟨_, _, rfl, rfl, ?_⟩
  | (refine' ⟨_, _, _, _, rfl, rfl, SqL.of ?hp, ?atx, ?_⟩; (case hp => walk_at "hp"); (case atx => exact rfl))
  | (refine' ⟨_, _, _, _, rfl, rfl, ?hp, ?atx, ?_⟩; (case hp => walk_at "hp"); (case atx => exact rfl))
  | (refine' ⟨_, _, rfl, Or.inl ?sq, ?_⟩; (case sq => walk_at "sq"))
  | refine Or.inl ⟨_, rfl, ?_⟩
  | refine Or.inr ⟨_, rfl, ?_⟩)
local macro_rules | `(tactic| walk_at "evd") => `(tactic| first
  | exact evd_int
  | exact evd_str
  | exact evd_non
  | exact evd_bl
  | exact evd_nil
  | (refine evd_cons ?_ (fun _ => ?_) <;> walk_at "evd")
  | (refine evd_tup ?_ (Nat.le_of_ble_eq_true rfl); walk_at "evd"))

section
variable {P : Program} {w : World} {K : PySem.W.Frag} {mg : Str → Option Value} {base : Heap}
mutual
/-- a value and its data; no list of it stands where S says -/
inductive Da (S : Addr → Prop) (H : Hp) : V → PyData → Prop
  | non : Da S H .non .none
  | bl (b : Bool) : Da S H (.bl b) (.bool b)
  | int (i : Int) : Da S H (.int i) (.int i)
  | str (x : Str) : Da S H (.str x) (.str x)
  | lst {a : Addr} {xs : List V} {ds : List PyData} : ¬ S a → H a = some (.lst xs) → DaAll S H xs ds → Da S H (.ref a) (.list ds)
  | tup {a : Addr} {xs : List V} {ds : List PyData} : H a = some (.tup xs) → DaAll S H xs ds → Da S H (.ref a) (.tuple ds)
inductive DaAll (S : Addr → Prop) (H : Hp) : List V → List PyData → Prop
  | nil : DaAll S H [] []
  | cons {v : V} {vs : List V} {d : PyData} {ds : List PyData} : Da S H v d → DaAll S H vs ds → DaAll S H (v :: vs) (d :: ds)
end
section
variable {S S' : Addr → Prop} {H H' : Hp}
mutual
theorem Da.mono (hS : ∀ a, S' a → S a) (hL : ∀ a xs, ¬ S a → H a = some (.lst xs) → H' a = some (.lst xs)) (hT : ∀ a xs, H a = some (.tup xs) → H' a = some (.tup xs)) : ∀ (d : PyData) (v : V), Da S H v d → Da S' H' v d
  | .none, _, h => by cases h; exact .non
  | .bool _, _, h => by cases h; exact .bl _
  | .int _, _, h => by cases h; exact .int _
  | .str _, _, h => by cases h; exact .str _
  | .list ds, _, h => by
    cases h with
    | lst n e a => exact .lst (fun z => n (hS _ z)) (hL _ _ n e) (DaAll.mono hS hL hT ds _ a)
  | .tuple ds, _, h => by
    cases h with
    | tup e a => exact .tup (hT _ _ e) (DaAll.mono hS hL hT ds _ a)
  | .dict _, _, h => nomatch h
theorem DaAll.mono (hS : ∀ a, S' a → S a) (hL : ∀ a xs, ¬ S a → H a = some (.lst xs) → H' a = some (.lst xs)) (hT : ∀ a xs, H a = some (.tup xs) → H' a = some (.tup xs)) : ∀ (ds : List PyData) (vs : List V), DaAll S H vs ds → DaAll S' H' vs ds
  | [], _, h => by cases h; exact .nil
  | d :: ds, _, h => by
    cases h with
    | cons a b => exact .cons (Da.mono hS hL hT d _ a) (DaAll.mono hS hL hT ds _ b)
end
mutual
theorem Da.dp : ∀ (d : PyData) (v : V), Da S H v d → Dp K H v d
  | .none, _, h => by cases h; exact .non
  | .bool _, _, h => by cases h; exact .bl _
  | .int _, _, h => by cases h; exact .int _
  | .str _, _, h => by cases h; exact .str _
  | .list ds, _, h => by
    cases h with
    | lst n e a => exact .lst (SqL.of e) (DaAll.dp ds _ a)
  | .tuple ds, _, h => by
    cases h with
    | tup e a => exact .tup (SqT.of e) (DaAll.dp ds _ a)
  | .dict _, _, h => nomatch h
theorem DaAll.dp : ∀ (ds : List PyData) (vs : List V), DaAll S H vs ds → DpAll K H vs ds
  | [], _, h => by cases h; exact .nil
  | d :: ds, _, h => by
    cases h with
    | cons a b => exact .cons (Da.dp d _ a) (DaAll.dp ds _ b)
end
theorem DaAll.snoc {vs : List V} {ds : List PyData} {v : V} {d : PyData} : DaAll S H vs ds → Da S H v d → DaAll S H (vs ++ [v]) (ds ++ [d]) := by
  induction vs generalizing ds with
  | nil => intro h z; cases h; exact .cons z .nil
  | cons x vs ih => intro h z; cases h with | cons a b => exact .cons a (ih b z)
theorem DaAll.length {vs : List V} {ds : List PyData} : DaAll S H vs ds → vs.length = ds.length := by
  induction vs generalizing ds with
  | nil => intro h; cases h; rfl
  | cons x vs ih => intro h; cases h with | cons a b => rw [List.length_cons, List.length_cons, ih b]
end
/-- data of at most n levels, with a text that is not long -/
structure Sm (n : Nat) (d : PyData) : Prop where
  sh : d.showable = true
  nd : d.hasDict = false
  dp : d.depth ≤ n
  ln : d.shown.length ≤ 30 * 4 ^ n
theorem Sm.up {n m : Nat} {d : PyData} (h : Sm n d) (l : n ≤ m) : Sm m d := ⟨h.sh, h.nd, Nat.le_trans h.dp l, Nat.le_trans h.ln (Nat.mul_le_mul_left _ (Nat.pow_le_pow_right (by decide) l))⟩
theorem sm_all {n : Nat} : ∀ {ds : List PyData}, (∀ d ∈ ds, Sm n d) → PyData.showableAll ds = true ∧ PyData.hasDictAll ds = false ∧ PyData.depthAll ds ≤ n ∧ (PyData.shownAll ds).length = ds.length ∧ ∀ t ∈ PyData.shownAll ds, t.length ≤ 30 * 4 ^ n
  | [], _ => ⟨rfl, rfl, Nat.zero_le _, rfl, fun _ h => nomatch h⟩
  | d :: ds, h => by
    obtain ⟨a1, a2, a3, a4, a5⟩ := sm_all (ds := ds) fun z hz => h z (List.mem_cons_of_mem _ hz)
    have s := h d (List.mem_cons_self ..)
    refine ⟨?_, ?_, ?_, ?_, ?_⟩
    · show (d.showable && PyData.showableAll ds) = true
      rw [s.sh, a1]
      rfl
    · show (d.hasDict || PyData.hasDictAll ds) = false
      rw [s.nd, a2]
      rfl
    · show max d.depth (PyData.depthAll ds) ≤ n
      have := s.dp
      omega
    · show (d.shown :: PyData.shownAll ds).length = _
      rw [List.length_cons, List.length_cons, a4]
    · intro t ht
      rcases List.mem_cons.mp ht with ht | ht
      · subst ht
        exact s.ln
      · exact a5 t ht
theorem textFrom_le {m : Nat} : ∀ (ts : List Str) (k : Nat) (acc : Str), (∀ t ∈ ts, t.length ≤ m) → (textFrom k acc ts).length ≤ acc.length + ts.length * (m + 2)
  | [], k, acc, _ => Nat.le_add_right _ _
  | t :: r, k, acc, h => by
    have ih := textFrom_le r (k + 1) (acc ++ (if k > 0 then ", " else "" : String) ++ t) fun z hz => h z (List.mem_cons_of_mem _ hz)
    have a := h t (List.mem_cons_self ..)
    show (textFrom (k + 1) (acc ++ (if k > 0 then ", " else "" : String) ++ t) r).length ≤ _
    have b : (Str.ofString (if k > 0 then ", " else "" : String)).length ≤ 2 := by split <;> decide
    have c : (acc ++ (if k > 0 then ", " else "" : String) ++ t : Str).length = acc.length + (Str.ofString (if k > 0 then ", " else "" : String)).length + t.length := by
      rw [Str.length_append, Str.length_append]
    rw [c] at ih
    rw [List.length_cons, Nat.succ_mul]
    omega
theorem join_le {m : Nat} : ∀ (ts : List Str), (∀ t ∈ ts, t.length ≤ m) → (Str.join ", " ts).length ≤ ts.length * (m + 2)
  | [], _ => Nat.zero_le _
  | [x], h => by
    have := h x (List.mem_cons_self ..)
    show x.length ≤ 1 * (m + 2)
    omega
  | x :: y :: r, h => by
    have ih := join_le (y :: r) fun z hz => h z (List.mem_cons_of_mem _ hz)
    have a := h x (List.mem_cons_self ..)
    show (x ++ (", " : Str) ++ Str.join ", " (y :: r)).length ≤ _
    have b : (Str.ofString ", ").length = 2 := by decide
    rw [Str.length_append, Str.length_append, List.length_cons, Nat.succ_mul]
    omega
theorem sm_list {n : Nat} {ds : List PyData} (h : ∀ d ∈ ds, Sm n d) (l : ds.length ≤ 3) : Sm (n + 1) (.list ds) := by
  obtain ⟨a1, a2, a3, a4, a5⟩ := sm_all h
  refine ⟨a1, a2, Nat.succ_le_succ a3, ?_⟩
  show (textFrom 0 "[" (PyData.shownAll ds) ++ ("]" : Str)).length ≤ _
  have b := textFrom_le (PyData.shownAll ds) 0 "[" a5
  have c1 : (Str.ofString "[").length = 1 := by decide
  have c2 : (Str.ofString "]").length = 1 := by decide
  rw [Str.length_append]
  have p : 1 ≤ 4 ^ n := Nat.pow_le_pow_right (show 0 < 4 by decide) (Nat.zero_le n)
  have q : (PyData.shownAll ds).length * (30 * 4 ^ n + 2) ≤ 3 * (30 * 4 ^ n + 2) := Nat.mul_le_mul_right _ (by omega)
  rw [Nat.pow_succ]
  omega
theorem sm_tuple {n : Nat} {ds : List PyData} (h : ∀ d ∈ ds, Sm n d) (l : ds.length ≤ 3) : Sm (n + 1) (.tuple ds) := by
  obtain ⟨a1, a2, a3, a4, a5⟩ := sm_all h
  refine ⟨a1, a2, Nat.succ_le_succ a3, ?_⟩
  show (("(" : Str) ++ Str.join ", " (PyData.shownAll ds) ++ (if (PyData.shownAll ds).length == 1 then ",)" else ")" : String)).length ≤ _
  have b := join_le (PyData.shownAll ds) a5
  have c1 : (Str.ofString "(").length = 1 := by decide
  have c2 : (Str.ofString (if (PyData.shownAll ds).length == 1 then ",)" else ")" : String)).length ≤ 2 := by split <;> decide
  rw [Str.length_append, Str.length_append]
  have p : 1 ≤ 4 ^ n := Nat.pow_le_pow_right (show 0 < 4 by decide) (Nat.zero_le n)
  have q : (PyData.shownAll ds).length * (30 * 4 ^ n + 2) ≤ 3 * (30 * 4 ^ n + 2) := Nat.mul_le_mul_right _ (by omega)
  rw [Nat.pow_succ]
  omega
theorem sm_leaf {n : Nat} {d : PyData} (h1 : d.showable = true) (h2 : d.hasDict = false) (h3 : d.depth ≤ 1) (h4 : d.shown.length ≤ 120) : Sm (n + 1) d := Sm.up (n := 1) ⟨h1, h2, h3, h4⟩ (by omega)

/-! whether any value is rows -/
theorem kit_seq_no {K : PySem.W.Frag} {T : String} (h1 : kitB T "list" = some false) (h2 : kitB T "tuple" = some false) : PySem.W.kitAny K (.type T) [.type "list", .type "tuple"] = some false := by
  unfold PySem.W.kitAny
  rw [kit_ty h1]
  unfold PySem.W.kitAny
  rw [kit_ty h2]
  rfl
def intsD : List PyData → Option (List Int)
  | [] => some []
  | .int i :: ds => (intsD ds).map (i :: ·)
  | _ :: _ => none
def seqD : PyData → Option (List PyData)
  | .list ds => some ds
  | .tuple ds => some ds
  | _ => none
def rowD (d : PyData) : Option (List Int) := (seqD d).bind intsD
def lenD (d : PyData) : Nat := ((seqD d).getD []).length
def dueFrom (m : Nat) : Nat → List PyData → Option Nat
  | _, [] => none
  | i, d :: ds => if (rowD d).isSome && decide (lenD d = m) then dueFrom m (i + 1) ds else some i
def dueD (d : PyData) : Option Nat := match seqD d with
  | none => some 0
  | some [] => some 0
  | some (d0 :: ds) => dueFrom (lenD d0) 0 (d0 :: ds)
def isIntD : PyData → Bool
  | .int _ => true
  | _ => false
theorem intsD_all : ∀ {ds : List PyData}, (intsD ds).isSome = ds.all isIntD
  | [] => rfl
  | .int i :: ds => by
    show ((intsD ds).map (i :: ·)).isSome = (true && ds.all isIntD)
    rw [Option.isSome_map, intsD_all (ds := ds), Bool.true_and]
  | .none :: _ => rfl
  | .bool _ :: _ => rfl
  | .str _ :: _ => rfl
  | .list _ :: _ => rfl
  | .tuple _ :: _ => rfl
  | .dict _ :: _ => rfl
/-- a value that is a sequence, and its things -/
theorem Da.seq {S : Addr → Prop} {H : Hp} {v : V} {d : PyData} {ds : List PyData} (h : Da S H v d) (e : seqD d = some ds) : ∃ a xs, v = .ref a ∧ (H a = some (.lst xs) ∨ H a = some (.tup xs)) ∧ DaAll S H xs ds := by
  cases h with
  | lst n ha all => cases e; exact ⟨_, _, rfl, .inl ha, all⟩
  | tup ha all => cases e; exact ⟨_, _, rfl, .inr ha, all⟩
  | non => cases e
  | bl _ => cases e
  | int _ => cases e
  | str _ => cases e
theorem Da.same {S : Addr → Prop} {H H' : Hp} {v : V} {d : PyData} (h : Da S H v d) (s : Same H H') : Da S H' v d := Da.mono (fun _ z => z) (fun _ _ _ e => s _ _ e) (fun _ _ e => s _ _ e) _ _ h
theorem DaAll.same {S : Addr → Prop} {H H' : Hp} {vs : List V} {ds : List PyData} (h : DaAll S H vs ds) (s : Same H H') : DaAll S H' vs ds := DaAll.mono (fun _ z => z) (fun _ _ _ e => s _ _ e) (fun _ _ e => s _ _ e) _ _ h
theorem DaAll.get {S : Addr → Prop} {H : Hp} : ∀ {vs : List V} {ds : List PyData} {i : Nat} {v : V}, DaAll S H vs ds → vs[i]? = some v → ∃ d, ds[i]? = some d ∧ Da S H v d
  | [], _, _, _, _, e => by cases e
  | x :: vs, _, i, v, h, e => by
    cases h with
    | cons a b =>
      cases i with
      | zero => cases e; exact ⟨_, rfl, a⟩
      | succ i => exact b.get e
theorem Da.sh {S : Addr → Prop} {H : Hp} {v : V} {d : PyData} (h : Da S H v d) : ∃ b, Sh b H v := by
  cases h with
  | lst n ha all => rename_i a _ _; exact ⟨a + 1, by simp, .inl ⟨_, ha⟩⟩
  | tup ha all => rename_i a _ _; exact ⟨a + 1, by simp, .inr ⟨_, ha⟩⟩
  | non => exact ⟨0, trivial⟩
  | bl _ => exact ⟨0, trivial⟩
  | int _ => exact ⟨0, trivial⟩
  | str _ => exact ⟨0, trivial⟩
theorem Da.isInt {S : Addr → Prop} {H : Hp} {v : V} {d : PyData} (h : Da S H v d) : isInt v = isIntD d := by
  cases h <;> rfl
theorem Da.ty {S : Addr → Prop} {H : Hp} {v : V} {d : PyData} (h : Da S H v d) : ∃ t, TyX K H v (.type t) ∧ PySem.W.kitAny K (.type t) [.type "list", .type "tuple"] = some (seqD d).isSome := by
  cases h with
  | lst n ha all => exact ⟨"list", .base (.lst ha), kit_seq_list⟩
  | tup ha all => exact ⟨"tuple", .base (.tup ha), kit_seq_tup⟩
  | non => exact ⟨"NoneType", .base .non, kit_seq_no (by decide +kernel) (by decide +kernel)⟩
  | bl x => exact ⟨"bool", .base (.bl x), kit_seq_no (by decide +kernel) (by decide +kernel)⟩
  | int x => exact ⟨"int", .base (.int x), kit_seq_no (by decide +kernel) (by decide +kernel)⟩
  | str x => exact ⟨"str", .base (.str x), kit_seq_no (by decide +kernel) (by decide +kernel)⟩
theorem seq_any {H : Hp} {a : Addr} {xs : List V} (h : H a = some (.lst xs) ∨ H a = some (.tup xs)) : SqA K H a xs := h.imp (fun h => SqL.of h) fun h => SqT.of h
def spIsRow : Sp := fun vs H Q _ => ∃ (S : Addr → Prop) (v : V) (d : PyData), vs = [v] ∧ Da S H v d ∧ (∀ ds, seqD d = some ds → ds.length ≤ 10000) ∧ ∀ H', Same H H' → Q (.bl (rowD d).isSome) H'
theorem ok_is_row (T : Txt K mg) : FnOk P w K mg base CX0 2 T.a__is_row T.d__is_row ["row"] spIsRow := by
  have G_is_whole : FnOk P w K mg base CX0 1 T.a_is_whole T.d_is_whole ["value"] spWhole := ok_whole T
  have G_is_sequence : FnOk P w K mg base CX0 1 T.a_is_sequence T.d_is_sequence ["value"] (spSeq K) := ok_seq T
  refine T.F__is_row.ok sc__is_row (fun vs H Q E h => ?_) (fun cdv A outer s H vs Q E hr h => ?_)
  · obtain ⟨S, v, d, rfl, _⟩ := h
    rfl
  · obtain ⟨S, v, d, rfl, hv, lb, k⟩ := h
    have nd := sc__is_row.nd
    refine ⟨_, (pss_one (ps_ret (pe_and (pe_call G_is_sequence (hr.mono (by first | decide | omega)) (by rfl) T.m_is_sequence T.k_is_sequence T.b_is_sequence .nil pass0 (pa_cons (pv 0) pa_nil)) (pe_one (pe_callB (cr_all rfl) (by rfl) T.z_all (by decide +kernel) (pa_cons (pe_lc (own := [("number", 1)]) (g := (gName 1)) (by rfl) nd (pi_seqA (pv 0)) (blkOk_by (N := ["row", "number"]) (sc := defScope s__is_row) (own := [("number", 1)]) (by decide +kernel)) (fun _ _ _ _ _ => by exact (pg_name (i := 1) nd rfl (Or.inl rfl))) (fun _ _ _ _ _ => by exact pts_nil) (fun _ _ _ _ _ => by exact (pe_call G_is_whole (hr.mono (by first | decide | omega)) (by rfl) T.m_is_whole T.k_is_whole T.b_is_whole .nil pass0 (pa_cons (pv 1) pa_nil)))) pa_nil)))))), ?_⟩
    obtain ⟨t, ty, kt⟩ := hv.ty (K := K)
    refine ⟨_, rfl, v, _, _, rfl, ty, kt, fun H1 s1 => ⟨_, rfl, ?_⟩⟩
    cases es : seqD d with
    | none =>
      refine ifF rfl ?_
      have z := k H1 s1
      rw [show (rowD d).isSome = false from by unfold rowD; rw [es]; rfl] at z
      exact z
    | some ds =>
      refine ifT rfl ?_
      have e0 : (rowD d).isSome = ds.all isIntD := by
        unfold rowD
        rw [es]
        exact intsD_all
      rw [e0] at k
      have ll := lb ds es
      obtain ⟨a, xs, rfl, ha, hall⟩ := hv.seq es
      have lx := hall.length
      have elt : ∀ (i : Nat) (y : V) (Hc : Hp), xs[i]? = some y → Same H1 Hc → ∃ b, Sh b Hc y ∧ ∃ dy, ds[i]? = some dy ∧ isInt y = isIntD dy := fun i y Hc hy sc => by
        obtain ⟨dy, edy, hdy⟩ := hall.get hy
        obtain ⟨b, hb⟩ := (hdy.same (s1.trans sc)).sh
        exact ⟨b, hb, dy, edy, hdy.isInt⟩
      have fin : ∀ (D : Addr) (Hc : Hp), Hc D = some (.lst (((ds.take xs.length).map isIntD).map V.bl)) → Same H1 Hc → ∃ l, (V.ref D = .ref l ∧ SqL K Hc l ((ds.map isIntD).map V.bl)) ∧ Q (.bl (ds.all isIntD)) Hc := fun D Hc hD sc => by
        rw [lx, List.take_length] at hD
        exact ⟨D, ⟨rfl, SqL.of hD⟩, k _ (s1.trans sc)⟩
      rcases ha with e | e
      · refine ⟨_, rfl, a, rfl, .inl ⟨xs, SqL.of (s1 _ _ e), fun D hD => ?_⟩⟩
        refine lc_list (xs := xs) (fun i Hc => Hc D = some (.lst (((ds.take i).map isIntD).map V.bl)) ∧ Same H1 Hc) ⟨upd_same, same_new hD⟩ (fun i Hc _ hP => SqL.of (hP.2 _ _ (s1 _ _ e))) (fun i y Hc hy hP => ?_) (fun Hc hP => ?_)
        · obtain ⟨b, hb, dy, edy, ei⟩ := elt i y Hc hy hP.2
          refine ⟨rfl, _, rfl, b, y, rfl, hb, ?_⟩
          rw [ei]
          have li := (List.getElem?_eq_some_iff.mp edy).1
          refine ⟨_, hP.1, szl' (by rw [List.length_map, List.length_map, List.length_take]; omega), ?_, same_lst hP.2 hD⟩
          rw [upd_same, take_snoc edy, List.map_append, List.map_append]
          rfl
        · obtain ⟨l, ⟨el, hl⟩, q⟩ := fin D Hc hP.1 hP.2
          refine ⟨l, _, by rw [el], hl, ?_⟩
          rw [List.all_map]
          exact q
      · refine ⟨_, rfl, a, rfl, .inr ⟨xs, SqT.of (s1 _ _ e), fun D hD => ?_⟩⟩
        refine lc_tup (xs := xs) (fun i Hc => Hc D = some (.lst (((ds.take i).map isIntD).map V.bl)) ∧ Same H1 Hc) ⟨upd_same, same_new hD⟩ (fun i Hc _ hP => SqT.of (hP.2 _ _ (s1 _ _ e))) (fun i y Hc hy hP => ?_) (fun Hc hP => ?_)
        · obtain ⟨b, hb, dy, edy, ei⟩ := elt i y Hc hy hP.2
          refine ⟨rfl, _, rfl, b, y, rfl, hb, ?_⟩
          rw [ei]
          have li := (List.getElem?_eq_some_iff.mp edy).1
          refine ⟨_, hP.1, szl' (by rw [List.length_map, List.length_map, List.length_take]; omega), ?_, same_lst hP.2 hD⟩
          rw [upd_same, take_snoc edy, List.map_append, List.map_append]
          rfl
        · obtain ⟨l, ⟨el, hl⟩, q⟩ := fin D Hc hP.1 hP.2
          refine ⟨l, _, by rw [el], hl, ?_⟩
          rw [List.all_map]
          exact q

end
end K17
namespace K17
open PySem PySem.Spec PyProof.Rows L2 Rs
local macro_rules | `(tactic| walk_at "om") => `(tactic| first | omega | (dsimp only; omega))
local macro_rules | `(tactic| walk_at "side") => `(tactic| first | omega | (dsimp only; omega) | decide | (unfold CMul; omega) | (unfold CDiv; omega) | (unfold CPow; omega) | exact wide_div (b := 64) (by omega) (by omega) (by decide) (by decide))
local macro_rules | `(tactic| walk_at "hp") => `(tactic| first | assumption | exact upd_same)
local macro_rules | `(tactic| walk_at "sq") => `(tactic| first | assumption | exact SqL.of (by assumption) | exact SqL.of upd_same)
local macro_rules | `(tactic| walk_at "st") => `(tactic| first
  | refine ⟨_, rfl, ?_⟩
  | (refine ⟨_, _, rfl, rfl, And.intro ?side ?_⟩; (case side => walk_at "side"))
  | refine ⟨_, _, rfl, rfl, ?_⟩
  | (refine' ⟨_, _, _, _, rfl, rfl, SqL.of ?hp, ?atx, ?_⟩; (case hp => walk_at "hp"); (case atx => exact rfl))
  | (refine' ⟨_, _, _, _, rfl, rfl, ?hp, ?atx, ?_⟩; (case hp => walk_at "hp"); (case atx => exact rfl))
  | (refine' ⟨_, _, rfl, Or.inl ?sq, ?_⟩; (case sq => walk_at "sq"))
  | refine Or.inl ⟨_, rfl, ?_⟩
  | refine Or.inr ⟨_, rfl, ?_⟩)
local macro_rules | `(tactic| walk_at "evd") => `(tactic| first
  | exact evd_int
  | exact evd_str
  | exact evd_non
  | exact evd_bl
  | exact evd_nil
  | (refine evd_cons ?_ (fun _ => ?_) <;> walk_at "evd")
  | (refine evd_tup ?_ (Nat.le_of_ble_eq_true rfl); walk_at "evd"))

section
variable {P : Program} {w : World} {K : PySem.W.Frag} {mg : Str → Option Value} {base : Heap}
/-! any values as rows: let by, or refused -/
theorem ok_excRows (T : Txt K mg) : FnOk P w K mg base CX0 1 T.a_InvalidRows___init__ T.d_InvalidRows___init__ ["self", "at"] (spExc T.c_InvalidRows "at") := by
  refine T.F_InvalidRows___init__.ok sc_InvalidRows___init__ (fun vs H Q E h => ?_) (fun cdv A outer s H vs Q E hr h => ?_)
  · obtain ⟨a, v, rfl, _⟩ := h
    rfl
  · obtain ⟨a, v, rfl, ha, k⟩ := h
    refine ⟨_, pss_one (ps_ost (pv 0) (pv 1)), ?_⟩
    exact ⟨_, rfl, _, rfl, a, T.c_InvalidRows, rfl, T.x_InvalidRows, T.n_InvalidRows, .inl ⟨ha, fun dx hd ne => k dx hd ne⟩⟩
/-- data of which no sequence, to the second level, is long -/
def Wide (d : PyData) : Prop := ∀ ds, seqD d = some ds → ds.length ≤ 10000 ∧ ∀ x ∈ ds, ∀ xs, seqD x = some xs → xs.length ≤ 10000
def spCheckRows (CI : Addr) : Sp := fun vs H Q E => ∃ (S : Addr → Prop) (v : V) (d : PyData), vs = [v] ∧ Da S H v d ∧ Wide d ∧
  (dueD d = none → ∀ H', Same H H' → Q .non H') ∧
  (∀ i : Nat, dueD d = some i → ∀ H' dx, Same H H' → H' dx = none → E (.ref CI) (some dx) (upd H' dx (.xd [("at", .int (i : Int))])))
theorem ok_check_rows (T : Txt K mg) : FnOk P w K mg base (L2.CX P w) 3 T.a_check_rows T.d_check_rows ["rows"] (spCheckRows T.c_InvalidRows) := by
  have G__is_row : FnOk P w K mg base CX0 2 T.a__is_row T.d__is_row ["row"] spIsRow := ok_is_row T
  have G_is_sequence : FnOk P w K mg base CX0 1 T.a_is_sequence T.d_is_sequence ["value"] (spSeq K) := ok_seq T
  have GE_InvalidRows : FnOk P w K mg base CX0 1 T.a_InvalidRows___init__ T.d_InvalidRows___init__ ["self", "at"] (spExc T.c_InvalidRows "at") := ok_excRows T
  refine T.F_check_rows.okX sc_check_rows (fun vs H Q E h => ?_) (fun cdv A outer s H vs Q E hr h => ?_)
  · obtain ⟨S, v, d, rfl, _⟩ := h
    rfl
  · obtain ⟨S, v, d, rfl, hv, wd, k1, k2⟩ := h
    have nd := sc_check_rows.nd
    refine ⟨_, (pss_cons (ps_if (PW.pt (pw_or (pt_not (pt_val (pe_call G_is_sequence (hr.mono (by first | decide | omega)) (by rfl) T.m_is_sequence T.k_is_sequence T.b_is_sequence .nil pass0 (pa_cons (pv 0) pa_nil)))) (pw_or1 (pt_cmpR op_eq (pe_callB call_len_seq (by rfl) T.z_len (by decide +kernel) (pa_cons (pv 0) pa_nil)) pe_int (nomark _))))) (pss_one (ps_raise rfl (takes_of rfl rfl rfl rfl) (pmk_oex T.x_InvalidRows T.i_InvalidRows T.t_InvalidRows GE_InvalidRows (hr.mono (by first | decide | omega)) T.b_InvalidRows___init__ .nil pass0 (by rfl) T.m_InvalidRows (pa_cons pe_int pa_nil)))) pss_nil)
    (pss_one (ps_for (passes_of rfl) rfl (pi_enumA (by rfl) T.z_enumerate (pa_cons (pv 0) pa_nil)) (pg_tup rfl (pgs_cons (pg_name (i := 1) nd rfl (Or.inl rfl)) (pgs_cons (pg_name (i := 2) nd rfl (Or.inl rfl)) pgs_nil)))
    (pss_one (ps_if (PW.pt (pw_or (pt_not (pt_val (pe_call G__is_row (hr.mono (by first | decide | omega)) (by rfl) T.m__is_row T.k__is_row T.b__is_row .nil pass0 (pa_cons (pv 2) pa_nil)))) (pw_or1 (pt_cmpR op_ne (pe_callB call_len_seq (by rfl) T.z_len (by decide +kernel) (pa_cons (pv 2) pa_nil)) (pe_callB call_len_seq (by rfl) T.z_len (by decide +kernel) (pa_cons (pe_ix ix_seq (pv 0) pe_int (fun _ _ => rfl)) pa_nil)) (nomark _))))) (pss_one (ps_raise rfl (takes_of rfl rfl rfl rfl) (pmk_oex T.x_InvalidRows T.i_InvalidRows T.t_InvalidRows GE_InvalidRows (hr.mono (by first | decide | omega)) T.b_InvalidRows___init__ .nil pass0 (by rfl) T.m_InvalidRows (pa_cons (pv 1) pa_nil)))) pss_nil))))), ?_⟩
    obtain ⟨t, ty, kt⟩ := hv.ty (K := K)
    refine ifs_go ?_
    refine ⟨_, rfl, v, _, _, rfl, ty, kt, fun H1 s1 => ⟨_, rfl, ?_⟩⟩
    cases es : seqD d with
    | none =>
      refine ifT rfl ?_
      exact make_exc (σ := []) fun dx hd => k2 0 (by unfold dueD; rw [es]) _ dx s1 hd
    | some ds =>
    obtain ⟨a, xs, rfl, ha, hall⟩ := hv.seq es
    have lx := hall.length
    obtain ⟨l0, l1⟩ := wd ds es
    have hq := seq_any (K := K) (ha.imp (s1 _ _) (s1 _ _))
    refine ifF rfl ?_
    refine ⟨_, rfl, a, xs, rfl, hq, rfl, _, rfl, ?_⟩
    cases ds with
    | nil =>
      rw [List.length_nil] at lx
      rw [lx]
      refine ifT rfl ?_
      exact make_exc (σ := []) fun dx hd => k2 0 (by unfold dueD; rw [es]) _ dx s1 hd
    | cons d0 ds =>
    rw [List.length_cons] at lx
    refine ifF (decide_eq_false (by rw [lx]; intro z; injection z with z; omega)) ?_
    have eD : dueD d = dueFrom (lenD d0) 0 (d0 :: ds) := by unfold dueD; rw [es]
    rw [eD] at k1 k2
    obtain ⟨v0, ev0⟩ : ∃ v0, xs[0]? = some v0 := ⟨_, List.getElem?_eq_getElem (by omega)⟩
    obtain ⟨d0', ed0, hd0⟩ := hall.get ev0
    cases ed0
    dsimp only [tNext]
    refine ⟨_, rfl, a, rfl, ?_⟩
    rcases id ha with ha2 | ha2
    · refine .inl ⟨xs, SqL.of (s1 _ _ ha2), for_it (walk_enum (xs := xs)) (fun i σ Hc => ∃ y1 y2, σ = [some (.ref a), y1, y2] ∧ dueFrom (lenD d0) 0 (d0 :: ds) = dueFrom (lenD d0) i ((d0 :: ds).drop i) ∧ (0 < i → (rowD d0).isSome = true) ∧ Same H Hc)
        ⟨none, none, rfl, rfl, fun z => absurd z (Nat.lt_irrefl _), s1⟩ (fun i σ Hc _ hR => by obtain ⟨_, _, _, _, _, s⟩ := hR; exact SqL.of (s _ _ ha2)) (fun i v σ Hc H9 hi hP hy => ?_) (fun σ Hc hP => ?_)⟩
      · obtain ⟨y1, y2, rfl, eS, pre, sc⟩ := hP
        obtain ⟨T', v1, v2, rfl, nT, rfl, h1, h2⟩ := hy
        cases h1
        obtain ⟨d1, ed, hd⟩ := hall.get h2
        have s2 := same_new (o := .tup [.int ((i : Nat) : Int), v2]) nT
        have hT : upd Hc T' (.tup [.int ((i : Nat) : Int), v2]) T' = some (.tup [.int ((i : Nat) : Int), v2]) := upd_same
        generalize upd Hc T' (.tup [.int ((i : Nat) : Int), v2]) = H2 at s2 hT ⊢
        have sA := sc.trans s2
        refine ⟨T', _, rfl, SqT.of hT, rfl, ⟨_, _, rfl, _, _, rfl, rfl, ?_⟩⟩
        dsimp only [gName]
        have edrop : (d0 :: ds).drop i = d1 :: (d0 :: ds).drop (i + 1) := by
          obtain ⟨hi2, e⟩ := List.getElem?_eq_some_iff.mp ed
          rw [List.drop_eq_getElem_cons hi2, e]
        have stepE : dueFrom (lenD d0) 0 (d0 :: ds) = if (rowD d1).isSome && decide (lenD d1 = lenD d0) then dueFrom (lenD d0) (i + 1) ((d0 :: ds).drop (i + 1)) else some i := by
          rw [eS, edrop]
          rfl
        refine ifs_go ?_
        refine ⟨_, rfl, S, v2, d1, rfl, hd.same sA, l1 d1 (List.mem_of_getElem? ed), fun H3 s3 => ⟨_, rfl, ?_⟩⟩
        have sB := sA.trans s3
        cases er : (rowD d1).isSome with
        | false =>
          refine ifT rfl ?_
          refine ⟨_, rfl, make_exc (v := .int i) (σ := []) fun d' hd' => k2 i (by rw [stepE, er]; rfl) _ d' sB hd'⟩
        | true =>
          refine ifF rfl ?_
          obtain ⟨ds1, es1⟩ : ∃ ds1, seqD d1 = some ds1 := by
            cases z : seqD d1 with
            | none => unfold rowD at er; rw [z] at er; cases er
            | some ds1 => exact ⟨_, rfl⟩
          have row0 : (rowD d0).isSome = true := by
            by_cases z : 0 < i
            · exact pre z
            · obtain rfl : i = 0 := by omega
              cases ed
              exact er
          obtain ⟨ds0, es0⟩ : ∃ ds0, seqD d0 = some ds0 := by
            cases z : seqD d0 with
            | none => unfold rowD at row0; rw [z] at row0; cases row0
            | some ds0 => exact ⟨_, rfl⟩
          obtain ⟨a1, xs1, rfl, ha1, hall1⟩ := hd.seq es1
          obtain ⟨a0, xs0, rfl, ha0, hall0⟩ := hd0.seq es0
          have n1 : lenD d1 = xs1.length := by rw [hall1.length]; unfold lenD; rw [es1]; rfl
          have n0 : lenD d0 = xs0.length := by rw [hall0.length]; unfold lenD; rw [es0]; rfl
          refine ⟨_, rfl, a1, xs1, rfl, seq_any (ha1.imp (sB _ _) (sB _ _)), _, rfl, ix_any (seq_any (ha.imp (sB _ _) (sB _ _))) (atI_nat (j := 0) ev0) ⟨a0, xs0, rfl, seq_any (ha0.imp (sB _ _) (sB _ _)), rfl, _, rfl, ?_⟩⟩
          have dn : decide (V.int (xs1.length : Int) = V.int (xs0.length : Int)) = decide (lenD d1 = lenD d0) := decide_eq_decide.mpr ⟨fun z => by injection z with z; omega, fun z => by rw [← n1, ← n0, z]⟩
          rw [dn]
          cases el : decide (lenD d1 = lenD d0) with
          | false =>
            refine ifT rfl ?_
            refine ⟨_, rfl, make_exc (v := .int i) (σ := []) fun d' hd' => k2 i (by rw [stepE, er, el]; rfl) _ d' sB hd'⟩
          | true =>
            refine ifF rfl ?_
            dsimp only [tNext]
            refine ⟨_, _, rfl, ?_, fun _ => row0, sB⟩
            rw [stepE, er, el]
            rfl
      · obtain ⟨y1, y2, rfl, eS, pre, sc⟩ := hP
        rw [List.drop_eq_nil_of_le (by rw [List.length_cons]; omega)] at eS
        exact k1 eS _ sc
    · refine .inr ⟨xs, SqT.of (s1 _ _ ha2), for_it (Rs.walk_enumT (xs := xs)) (fun i σ Hc => ∃ y1 y2, σ = [some (.ref a), y1, y2] ∧ dueFrom (lenD d0) 0 (d0 :: ds) = dueFrom (lenD d0) i ((d0 :: ds).drop i) ∧ (0 < i → (rowD d0).isSome = true) ∧ Same H Hc)
        ⟨none, none, rfl, rfl, fun z => absurd z (Nat.lt_irrefl _), s1⟩ (fun i σ Hc _ hR => by obtain ⟨_, _, _, _, _, s⟩ := hR; exact SqT.of (s _ _ ha2)) (fun i v σ Hc H9 hi hP hy => ?_) (fun σ Hc hP => ?_)⟩
      · obtain ⟨y1, y2, rfl, eS, pre, sc⟩ := hP
        obtain ⟨T', v1, v2, rfl, nT, rfl, h1, h2⟩ := hy
        cases h1
        obtain ⟨d1, ed, hd⟩ := hall.get h2
        have s2 := same_new (o := .tup [.int ((i : Nat) : Int), v2]) nT
        have hT : upd Hc T' (.tup [.int ((i : Nat) : Int), v2]) T' = some (.tup [.int ((i : Nat) : Int), v2]) := upd_same
        generalize upd Hc T' (.tup [.int ((i : Nat) : Int), v2]) = H2 at s2 hT ⊢
        have sA := sc.trans s2
        refine ⟨T', _, rfl, SqT.of hT, rfl, ⟨_, _, rfl, _, _, rfl, rfl, ?_⟩⟩
        dsimp only [gName]
        have edrop : (d0 :: ds).drop i = d1 :: (d0 :: ds).drop (i + 1) := by
          obtain ⟨hi2, e⟩ := List.getElem?_eq_some_iff.mp ed
          rw [List.drop_eq_getElem_cons hi2, e]
        have stepE : dueFrom (lenD d0) 0 (d0 :: ds) = if (rowD d1).isSome && decide (lenD d1 = lenD d0) then dueFrom (lenD d0) (i + 1) ((d0 :: ds).drop (i + 1)) else some i := by
          rw [eS, edrop]
          rfl
        refine ifs_go ?_
        refine ⟨_, rfl, S, v2, d1, rfl, hd.same sA, l1 d1 (List.mem_of_getElem? ed), fun H3 s3 => ⟨_, rfl, ?_⟩⟩
        have sB := sA.trans s3
        cases er : (rowD d1).isSome with
        | false =>
          refine ifT rfl ?_
          refine ⟨_, rfl, make_exc (v := .int i) (σ := []) fun d' hd' => k2 i (by rw [stepE, er]; rfl) _ d' sB hd'⟩
        | true =>
          refine ifF rfl ?_
          obtain ⟨ds1, es1⟩ : ∃ ds1, seqD d1 = some ds1 := by
            cases z : seqD d1 with
            | none => unfold rowD at er; rw [z] at er; cases er
            | some ds1 => exact ⟨_, rfl⟩
          have row0 : (rowD d0).isSome = true := by
            by_cases z : 0 < i
            · exact pre z
            · obtain rfl : i = 0 := by omega
              cases ed
              exact er
          obtain ⟨ds0, es0⟩ : ∃ ds0, seqD d0 = some ds0 := by
            cases z : seqD d0 with
            | none => unfold rowD at row0; rw [z] at row0; cases row0
            | some ds0 => exact ⟨_, rfl⟩
          obtain ⟨a1, xs1, rfl, ha1, hall1⟩ := hd.seq es1
          obtain ⟨a0, xs0, rfl, ha0, hall0⟩ := hd0.seq es0
          have n1 : lenD d1 = xs1.length := by rw [hall1.length]; unfold lenD; rw [es1]; rfl
          have n0 : lenD d0 = xs0.length := by rw [hall0.length]; unfold lenD; rw [es0]; rfl
          refine ⟨_, rfl, a1, xs1, rfl, seq_any (ha1.imp (sB _ _) (sB _ _)), _, rfl, ix_any (seq_any (ha.imp (sB _ _) (sB _ _))) (atI_nat (j := 0) ev0) ⟨a0, xs0, rfl, seq_any (ha0.imp (sB _ _) (sB _ _)), rfl, _, rfl, ?_⟩⟩
          have dn : decide (V.int (xs1.length : Int) = V.int (xs0.length : Int)) = decide (lenD d1 = lenD d0) := decide_eq_decide.mpr ⟨fun z => by injection z with z; omega, fun z => by rw [← n1, ← n0, z]⟩
          rw [dn]
          cases el : decide (lenD d1 = lenD d0) with
          | false =>
            refine ifT rfl ?_
            refine ⟨_, rfl, make_exc (v := .int i) (σ := []) fun d' hd' => k2 i (by rw [stepE, er, el]; rfl) _ d' sB hd'⟩
          | true =>
            refine ifF rfl ?_
            dsimp only [tNext]
            refine ⟨_, _, rfl, ?_, fun _ => row0, sB⟩
            rw [stepE, er, el]
            rfl
      · obtain ⟨y1, y2, rfl, eS, pre, sc⟩ := hP
        rw [List.drop_eq_nil_of_le (by rw [List.length_cons]; omega)] at eS
        exact k1 eS _ sc

end
end K17
namespace K17
open PySem PySem.Spec PyProof.Rows L2 Rs
local macro_rules | `(tactic| walk_at "om") => `(tactic| first | omega | (dsimp only; omega))
local macro_rules | `(tactic| walk_at "side") => `(tactic| first | omega | (dsimp only; omega) | decide | (unfold CMul; omega) | (unfold CDiv; omega) | (unfold CPow; omega) | exact wide_div (b := 64) (by omega) (by omega) (by decide) (by decide))
local macro_rules | `(tactic| walk_at "hp") => `(tactic| first | assumption | exact upd_same)
local macro_rules | `(tactic| walk_at "sq") => `(tactic| first | assumption | exact SqL.of (by assumption) | exact SqL.of upd_same)
local macro_rules | `(tactic| walk_at "st") => `(tactic| first
  | refine ⟨_, rfl, ?_⟩
  | (refine ⟨_, _, rfl, rfl, And.intro ?side ?_⟩; (case side => walk_at "side"))
  | refine ⟨_, _, rfl, rfl, ?_⟩
  | (refine' ⟨_, _, _, _, rfl, rfl, SqL.of ?hp, ?atx, ?_⟩; (case hp => walk_at "hp"); (case atx => exact rfl))
  | (refine' ⟨_, _, _, _, rfl, rfl, ?hp, ?atx, ?_⟩; (case hp => walk_at "hp"); (case atx => exact rfl))
  | (refine' ⟨_, _, rfl, Or.inl ?sq, ?_⟩; (case sq => walk_at "sq"))
  | refine Or.inl ⟨_, rfl, ?_⟩
  | refine Or.inr ⟨_, rfl, ?_⟩)
local macro_rules | `(tactic| walk_at "evd") => `(tactic| first
  | exact evd_int
  | exact evd_str
  | exact evd_non
  | exact evd_bl
  | exact evd_nil
  | (refine evd_cons ?_ (fun _ => ?_) <;> walk_at "evd")
  | (refine evd_tup ?_ (Nat.le_of_ble_eq_true rfl); walk_at "evd"))

section
variable {P : Program} {w : World} {K : PySem.W.Frag} {mg : Str → Option Value} {base : Heap}
/-! play -/
theorem due_rows {d : PyData} (h : dueD d = none) : ∃ (ds : List PyData) (rs : List (List Int)) (m : Nat), seqD d = some ds ∧ ds.map rowD = rs.map some ∧ RowsI ds.length m rs ∧ ∀ x ∈ ds, lenD x = m := by
  have go : ∀ (m : Nat) (ds : List PyData) (i : Nat), dueFrom m i ds = none → ∃ rs : List (List Int), ds.map rowD = rs.map some ∧ (∀ x ∈ ds, lenD x = m) ∧ ∀ r ∈ rs, r.length = m := by
    intro m ds
    induction ds with
    | nil => intro i _; exact ⟨[], rfl, fun x h => absurd h (by simp), fun x h => absurd h (by simp)⟩
    | cons x ds ih =>
      intro i e
      have e : (if (rowD x).isSome && decide (lenD x = m) then dueFrom m (i + 1) ds else some i) = none := e
      cases er : rowD x with
      | none => rw [er] at e; simp at e
      | some r =>
        rw [er] at e
        cases el : decide (lenD x = m) with
        | false => rw [el] at e; simp at e
        | true =>
          rw [el] at e
          obtain ⟨rs, a, b, c⟩ := ih _ e
          have ex := of_decide_eq_true el
          refine ⟨r :: rs, by rw [List.map_cons, List.map_cons, er, a], fun y hy => ?_, fun y hy => ?_⟩
          · rcases List.mem_cons.mp hy with h | h
            · rw [h]; exact ex
            · exact b y h
          · rcases List.mem_cons.mp hy with h | h
            · rw [h]
              unfold rowD at er
              unfold lenD at ex
              cases es : seqD x with
              | none => rw [es] at er; cases er
              | some xs =>
                rw [es] at er ex
                have il : ∀ {xs : List PyData} {r : List Int}, intsD xs = some r → r.length = xs.length := by
                  intro xs
                  induction xs with
                  | nil => intro r e; cases e; rfl
                  | cons y ys ihy =>
                    intro r e
                    cases y with
                    | int i =>
                      have e : (intsD ys).map (i :: ·) = some r := e
                      cases eq : intsD ys with
                      | none => rw [eq] at e; cases e
                      | some q =>
                        rw [eq] at e
                        cases e
                        rw [List.length_cons, List.length_cons, ihy eq]
                    | none => cases e
                    | bool _ => cases e
                    | str _ => cases e
                    | list _ => cases e
                    | tuple _ => cases e
                    | dict _ => cases e
                rw [il er]
                exact ex
            · exact c y h
  unfold dueD at h
  cases es : seqD d with
  | none => rw [es] at h; cases h
  | some ds =>
    rw [es] at h
    cases ds with
    | nil => cases h
    | cons d0 ds =>
      obtain ⟨rs, a, b, c⟩ := go _ _ _ h
      refine ⟨_, rs, lenD d0, rfl, a, ⟨?_, c, by rw [List.length_cons]; omega⟩, b⟩
      have := congrArg List.length a
      rw [List.length_map, List.length_map] at this
      exact this.symm
theorem Da.row {S : Addr → Prop} {H : Hp} {v : V} {d : PyData} {r : List Int} (h : Da S H v d) (e : rowD d = some r) : RowG K H v r := by
  unfold rowD at e
  cases es : seqD d with
  | none => rw [es] at e; cases e
  | some ds =>
    rw [es] at e
    obtain ⟨a, xs, rfl, ha, hall⟩ := h.seq es
    have go : ∀ {ds : List PyData} {xs : List V} {r : List Int}, DaAll S H xs ds → intsD ds = some r → xs = r.map V.int := by
      intro ds
      induction ds with
      | nil => intro xs r hx e; cases hx; cases e; rfl
      | cons y ys ih =>
        intro xs r hx e
        cases hx with
        | cons h1 h2 =>
          cases h1 with
          | int i =>
            have e : (intsD ys).map (i :: ·) = some r := e
            cases eq : intsD ys with
            | none => rw [eq] at e; cases e
            | some q =>
              rw [eq] at e
              cases e
              rw [List.map_cons, ih h2 eq]
          | non => cases e
          | bl _ => cases e
          | str _ => cases e
          | lst _ _ _ => cases e
          | tup _ _ => cases e
    obtain rfl := go hall e
    exact ⟨a, rfl, seq_any ha⟩
theorem DaAll.rows {S : Addr → Prop} {H : Hp} : ∀ {vs : List V} {ds : List PyData} {rs : List (List Int)}, DaAll S H vs ds → ds.map rowD = rs.map some → AllR (RowG K H) vs rs
  | _, [], [], h, _ => by cases h; exact .nil
  | _, [], _ :: _, _, e => by cases e
  | _, _ :: _, [], _, e => by cases e
  | _, d :: ds, r :: rs, h, e => by
    cases h with
    | cons a b =>
      rw [List.map_cons, List.map_cons] at e
      injection e with e1 e2
      exact .cons (a.row e1) (b.rows e2)
/-- rounds with their numbers -/
def numP (zs : List (BD × Int)) : List (Int × (BD × Int)) := zs.zipIdx.map fun z => ((z.2 : Int), z.1)
theorem turns_num {CB CL CF : Addr} {H : Hp} {ts : List V} {zs : List (BD × Int)} (h : AllR (TurnV CB CL CF H) ts zs) : AllR (TurnE CB CL CF H) (enumK 0 ts) (numP zs) := by
  have go : ∀ {ts : List V} {zs : List (BD × Int)} (k : Nat), AllR (TurnV CB CL CF H) ts zs → AllR (TurnE CB CL CF H) (enumK k ts) ((zs.zipIdx k).map fun z => ((z.2 : Int), z.1)) := by
    intro ts zs k h
    induction h generalizing k with
    | nil => exact .nil
    | cons a _ ih => exact .cons ⟨rfl, a⟩ (ih (k + 1))
  exact go 0 h
theorem slips_two {zs : List (Int × (BD × Int))} {n : Int} : ∀ {ds : List SD} {i : Nat} {acc cs : List (Snd × Nat)}, slipsP zs n i acc ds = .inr cs → (∀ c ∈ acc, c.2 ≤ 2) → ∀ c ∈ cs, c.2 ≤ 2
  | [], _, acc, cs, e, h => by
    cases e
    exact h
  | d :: ds, i, acc, cs, e, h => by
    have e : (if (acc.any fun c => decide (c.1 = sndS d)) || !isThere zs n d then Sum.inl i else slipsP zs n (i + 1) (acc ++ [(sndS d, comeV d.k)]) ds) = Sum.inr cs := e
    cases b : (acc.any fun c => decide (c.1 = sndS d)) || !isThere zs n d with
    | true => rw [b] at e; cases e
    | false =>
      rw [b] at e
      refine slips_two (ds := ds) e fun c hc => ?_
      rcases List.mem_append.mp hc with hc | hc
      · exact h c hc
      · rw [List.mem_singleton] at hc
        subst hc
        show comeV d.k ≤ 2
        unfold comeV
        split <;> omega
def PlayedO (K : PySem.W.Frag) (CP : Addr) (H : Hp) (v : V) (rs : List (List Int)) (ss st : List Int) : Prop := ∃ x dx a b c us, v = .ref x ∧ H x = some (.ins CP dx (fldPl a b (rs.all fun r => decide (r = ss)) c)) ∧ H a = some (.tup us) ∧ AllR (RowT K H) us rs ∧ H b = some (.tup (ss.map V.int)) ∧ H c = some (.tup (st.map V.int))
def spPlay (K : PySem.W.Frag) (CP CB CL CF CS CY CI CR : Addr) : Sp := fun vs H Q E => ∃ (S : Addr → Prop) (u v : V) (a : Addr) (ds : List BD) (d : PyData), vs = [u, v, .ref a] ∧ PlanE K CP CB CL CF H u ds ∧ (∀ x ∈ ds, BI x) ∧ Da S H v d ∧ Wide d ∧
  (∀ i : Nat, dueD d = some i → ∀ H' dx, Same H H' → H' dx = none → E (.ref CI) (some dx) (upd H' dx (.xd [("at", .int (i : Int))]))) ∧
  (dueD d = none → ∃ (ss : List V) (sd : List SD) (n m : Nat) (rs : List (List Int)), SqA K H a ss ∧ AllR (SlipO CS H) ss sd ∧ sd.length ≤ 10000 ∧ (∀ x ∈ sd, KindOk x) ∧ n ≤ 1000 ∧ m ≤ 1000 ∧ seqD d ≠ none ∧ (∀ xs, seqD d = some xs → xs.map rowD = rs.map some) ∧ RowsI n m rs ∧ (turnsP ds n).length ≤ 10000 ∧
    (∀ i : Nat, slipsP (numP (turnsP ds n)) n 0 [] sd = .inl i → ∀ H' dx, Same H H' → H' dx = none → E (.ref CR) (some dx) (upd H' dx (.xd [("at", .int (i : Int))]))) ∧
    (∀ cs, slipsP (numP (turnsP ds n)) n 0 [] sd = .inr cs → ∀ H' p, Same H H' → PlayedO K CY H' p (afterP n m cs (numP (turnsP ds n)) rs) (sumsP rs m) (sentP m n (turnsP ds n)) → Q p H'))
theorem ok_play (T : Txt K mg) (hST : ∀ l : LD, LI l → KDct K w T.A_STEPS l.w (.int (stepP l))) (hCM : ∀ d : SD, KindOk d → KDct K w T.A_COMINGS d.k (.int (comeV d.k : Int))) : FnOk P w K mg base (L2.CX P w) 6 T.a_play T.d_play ["plan", "rows", "slips"] (spPlay K T.c_Plan T.c_Block T.c_Lane T.c_Form T.c_Slip T.c_Played T.c_InvalidRows T.c_Refused) := by
  have G_check_rows : FnOk P w K mg base (L2.CX P w) 3 T.a_check_rows T.d_check_rows ["rows"] (spCheckRows T.c_InvalidRows) := ok_check_rows T
  have G_turns_of : FnOk P w K mg base CX0 2 T.a_turns_of T.d_turns_of ["plan", "n"] (spTurnsOf K T.c_Plan T.c_Block T.c_Lane T.c_Form) := ok_turns_of T
  have G_rows_after : FnOk P w K mg base CX0 5 T.a_rows_after T.d_rows_after ["rows", "turns", "comings"] (spAfter K T.c_Block T.c_Lane T.c_Form) := ok_rows_after T hST
  have G_comings_of : FnOk P w K mg base (L2.CX P w) 3 T.a_comings_of T.d_comings_of ["slips", "turns", "n"] (spComings K T.c_Refused T.c_Slip T.c_Block T.c_Lane T.c_Form) := ok_comings_of T hCM
  have G_sums_of : FnOk P w K mg base CX0 1 T.a_sums_of T.d_sums_of ["rows"] (spSumsOf K) := ok_sums_of T
  have G_handed_on : FnOk P w K mg base CX0 3 T.a_handed_on T.d_handed_on ["turns", "n", "length"] (spHanded K T.c_Block T.c_Lane T.c_Form) := ok_handed_on T
  have GI_Played : FnOk P w K mg base CX0 2 T.a_Played___init__ T.d_Played___init__ ["self", "rows", "sums", "sent"] (spPlayedI K T.c_Played) := ok_playedI T
  refine T.F_play.ok (CX := L2.CX P w) sc_play (fun vs H Q E h => ?_) (fun cdv A outer s H vs Q E hr h => ?_)
  · obtain ⟨S, u, v, a, ds, d, rfl, _⟩ := h
    rfl
  · obtain ⟨S, u, v, a, ds, d, rfl, hu, bis, hv, wd, k1, k2⟩ := h
    have nd := sc_play.nd
    refine ⟨_, (pss_cons (ps_expr (pe_callS (E := WE fun cls d _ H => E cls d H) G_check_rows (hr.mono (by first | decide | omega)) (by rfl) T.m_check_rows T.k_check_rows T.b_check_rows (fun σ => passAt (takes_of rfl rfl rfl rfl) σ) (pa_cons (pv 1) pa_nil)))
    (pss_cons (ps_set (i := 3) nd rfl (Or.inl rfl) (pe_callB call_len_seq (by rfl) T.z_len (by decide +kernel) (pa_cons (pv 1) pa_nil)))
    (pss_cons (ps_set (i := 4) nd rfl (Or.inl rfl) (pe_call G_turns_of (hr.mono (by first | decide | omega)) (by rfl) T.m_turns_of T.k_turns_of T.b_turns_of .nil pass0 (pa_cons (pv 0) (pa_cons (pv 3) pa_nil))))
    (pss_cons (ps_set (i := 5) nd rfl (Or.inl rfl) (pe_dictEnum rfl (by rfl) T.z_dict (by rfl) T.z_enumerate (pv 4)))
    (pss_cons (ps_set (i := 6) nd rfl (Or.inl rfl) (pe_call G_rows_after (hr.mono (by first | decide | omega)) (by rfl) T.m_rows_after T.k_rows_after T.b_rows_after .nil pass0 (pa_cons (pv 1) (pa_cons (pv 5) (pa_cons (pe_callS (E := WE fun cls d _ H => E cls d H) G_comings_of (hr.mono (by first | decide | omega)) (by rfl) T.m_comings_of T.k_comings_of T.b_comings_of (fun σ => passAt (takes_of rfl rfl rfl rfl) σ) (pa_cons (pv 2) (pa_cons (pv 5) (pa_cons (pv 3) pa_nil)))) pa_nil)))))
    (pss_one (ps_ret (pe_make T.M_Played GI_Played (hr.mono (by first | decide | omega)) (by rfl) T.m_Played T.b_Played___init__ .nil pass0 (pa_cons (pv 6) (pa_cons (pe_call G_sums_of (hr.mono (by first | decide | omega)) (by rfl) T.m_sums_of T.k_sums_of T.b_sums_of .nil pass0 (pa_cons (pv 1) pa_nil)) (pa_cons (pe_call G_handed_on (hr.mono (by first | decide | omega)) (by rfl) T.m_handed_on T.k_handed_on T.b_handed_on .nil pass0 (pa_cons (pv 4) (pa_cons (pv 3) (pa_cons (pe_callB call_len_seq (by rfl) T.z_len (by decide +kernel) (pa_cons (pe_ix ix_seq (pv 1) pe_int (fun _ _ => rfl)) pa_nil)) pa_nil)))) pa_nil))))))))))), ?_⟩
    refine ⟨_, rfl, S, v, d, rfl, hv, wd, fun e0 H1 s1 => ?_, fun i e H' dx s' n' => k1 i e H' dx s' n'⟩
    obtain ⟨ss, sd, n, m, rs, hs, hsd, lsd, kok, n1, m1, ne, mp, ri, tl, k3, k4⟩ := k2 e0
    cases es : seqD d with
    | none => exact absurd es ne
    | some xs =>
    obtain ⟨av, us, rfl, ha, hall⟩ := hv.seq es
    have hrows : AllR (RowG K H) us rs := hall.rows (mp xs es)
    have lu := hrows.length
    have rm := ri.many
    obtain rfl : us.length = n := by omega
    have n0 := ri.some_
    have hqa : SqA K H av us := seq_any ha
    dsimp only
    refine asg_go ?_
    refine ⟨_, rfl, av, us, rfl, hqa.same s1, ?_⟩
    dsimp only [gName]
    refine asg_go ?_
    refine ⟨_, rfl, _, rfl, u, ds, (us.length : Int), rfl, hu.same s1, by omega, by omega, bis, tl, fun D ts H2 s2 nD hD hts => ?_⟩
    have s02 := s1.trans s2
    dsimp only [gName]
    refine asg_go ?_
    refine ⟨_, rfl, D, ts, rfl, SqL.of hD, fun dd ndd => ?_⟩
    rw [enumK_all]
    have s3 := same_new (o := .dK (enumK 0 ts)) ndd
    have hdd : upd H2 dd (.dK (enumK 0 ts)) dd = some (.dK (enumK 0 ts)) := upd_same
    generalize upd H2 dd (.dK (enumK 0 ts)) = H3 at s3 hdd ⊢
    have s03 := s02.trans s3
    have hts3 := hts.mono fun v z h => h.same s3
    have hn3 := turns_num hts3
    have hD3 := s3 _ _ hD
    dsimp only [gName]
    have l0 := ri.long
    refine asg_go ?_
    refine ⟨_, rfl, _, rfl, _, rfl, _, rfl, _, rfl, a, dd, (us.length : Int), ss, sd, _, _, rfl, hs.same s03, hsd.mono fun v z ⟨x, dx, e, h⟩ => ⟨x, dx, e, s03 _ _ h⟩, lsd, kok, hdd, hn3, ?_, ?_⟩
    · intro cs p H4 ecs s4 np hp
      have s04 := s03.trans s4
      have two := slips_two ecs (fun c h => by cases h)
      refine ⟨av, dd, p, us, rs, _, _, cs, us.length, m, rfl, hqa.same s04, hrows.mono fun v r h => h.same s04, ri, n1, m1, s4 _ _ hdd, hn3.mono fun e z h => ⟨h.1, h.2.same s4⟩, hp, two, fun q ws H5 s5 nq hq hws => ?_⟩
      have s05 := s04.trans s5
      dsimp only [gName]
      refine ret_go ?_
      obtain ⟨v0, hv0⟩ : ∃ v, us[0]? = some v := ⟨_, List.getElem?_eq_getElem (by omega)⟩
      obtain ⟨r0, er0, p0, rfl, hp0⟩ := hrows.get hv0
      have lr0 := l0 r0 (List.mem_of_getElem? er0)
      refine ⟨_, rfl, ?_⟩
      refine ⟨_, rfl, av, us, rs, us.length, m, rfl, hqa.same s05, hrows.mono fun v r h => h.same s05, ri, n1, m1, fun b H6 s6 nb hb => ?_⟩
      have s06 := s05.trans s6
      have s36 := (s4.trans s5).trans s6
      refine ⟨_, rfl, _, rfl, _, rfl, ix_any (hqa.same s06) (atI_nat (j := 0) hv0) ⟨p0, _, rfl, hp0.same s06, ?_⟩⟩
      rw [List.length_map, lr0]
      refine ⟨D, ts, turnsP ds (us.length : Int), us.length, m, rfl, s36 _ _ hD3, hts3.mono fun v z h => h.same s36, n0, n1, fun c H7 s7 nc hc => ?_⟩
      have s07 := s06.trans s7
      have s57 := s6.trans s7
      have ok := after_ok (cs := cs) (zs := numP (turnsP ds (us.length : Int))) ri
      have okm := ok.many
      intro x dx nx ndx nex
      have lw := hws.length
      have sb := same_two (o1 := .own x) (o2 := .ins T.c_Played dx []) nx ndx
      have s5b := s57.trans sb
      refine ⟨x, dx, q, b, c, ws, _, sumsP rs m, rfl, upd_same, SqT.of (s5b _ _ hq), hws.mono fun v r h => h.same s5b, SqT.of (sb _ _ (s7 _ _ hb)), by omega, fun H8 s8 hx8 => ⟨rfl, ?_⟩⟩
      have s78 : Same H7 H8 := fun y o e => by
        refine s8 y o (ne_of_none e nx) ?_
        exact sb _ _ e
      refine k4 cs ecs _ _ (s07.trans s78) ⟨x, dx, q, b, c, ws, rfl, hx8, s78 _ _ (s57 _ _ hq), hws.mono fun v r h => (h.same s57).same s78, s78 _ _ (s7 _ _ hb), s78 _ _ hc⟩
    · intro i H4 dx e s4 hn
      exact k3 i e _ dx (s03.trans s4) hn

end
end K17
namespace K17
open PySem PySem.Spec PyProof.Rows L2 Rs
local macro_rules | `(tactic| walk_at "om") => `(tactic| first | omega | (dsimp only; omega))
local macro_rules | `(tactic| walk_at "side") => `(tactic| first | omega | (dsimp only; omega) | decide | (unfold CMul; omega) | (unfold CDiv; omega) | (unfold CPow; omega) | exact wide_div (b := 64) (by omega) (by omega) (by decide) (by decide))
local macro_rules | `(tactic| walk_at "hp") => `(tactic| first | assumption | exact upd_same)
local macro_rules | `(tactic| walk_at "sq") => `(tactic| first | assumption | exact SqL.of (by assumption) | exact SqL.of upd_same)
local macro_rules | `(tactic| walk_at "st") => `(tactic| first
  | refine ⟨_, rfl, ?_⟩
  | (refine ⟨_, _, rfl, rfl, And.intro ?side ?_⟩; (case side => walk_at "side"))
  | refine ⟨_, _, rfl, rfl, ?_⟩
  | (refine' ⟨_, _, _, _, rfl, rfl, SqL.of ?hp, ?atx, ?_⟩; (case hp => walk_at "hp"); (case atx => exact rfl))
  | (refine' ⟨_, _, _, _, rfl, rfl, ?hp, ?atx, ?_⟩; (case hp => walk_at "hp"); (case atx => exact rfl))
  | (refine' ⟨_, _, rfl, Or.inl ?sq, ?_⟩; (case sq => walk_at "sq"))
  | refine Or.inl ⟨_, rfl, ?_⟩
  | refine Or.inr ⟨_, rfl, ?_⟩)
local macro_rules | `(tactic| walk_at "evd") => `(tactic| first
  | exact evd_int
  | exact evd_str
  | exact evd_non
  | exact evd_bl
  | exact evd_nil
  | (refine evd_cons ?_ (fun _ => ?_) <;> walk_at "evd")
  | (refine evd_tup ?_ (Nat.le_of_ble_eq_true rfl); walk_at "evd"))

section
variable {P : Program} {w : World} {K : PySem.W.Frag} {mg : Str → Option Value} {base : Heap}
/-! the law's own text of a form -/
theorem nS_neg {t : Int} (h : t < 0) : nS t = Str.ofString "-" ++ nS (t.natAbs : Int) := by
  refine tl_inj ?_
  rw [TL.tl_append, signs_neg h, signs_abs]
  rfl
theorem nil_cat {x : Str} : Str.ofString "" ++ x = x := tl_inj (by rw [TL.tl_append]; rfl)
theorem front2 {t : Int} (h : t ≠ 0) : frontS t = (if t < 0 then Str.ofString "-" else Str.ofString "") ++ (if 1 < (t.natAbs : Int) then nS (t.natAbs : Int) else Str.ofString "") ++ Str.ofString "n" := by
  unfold frontS
  by_cases h1 : t = 1
  · subst h1
    rfl
  · by_cases h2 : t = -1
    · subst h2
      rfl
    · rw [if_neg h1, if_neg h2, if_pos (show 1 < (t.natAbs : Int) by omega)]
      by_cases h3 : t < 0
      · rw [if_pos h3, nS_neg h3]
      · rw [if_neg h3, show (t.natAbs : Int) = t by omega, nil_cat]
theorem ok_form_text (T : Txt K mg) : FnOk P w K mg base CX0 1 T.a__law_form_text T.d__law_form_text ["_law_form"] (spFormText K) := by
  refine T.F__law_form_text.ok sc__law_form_text (fun vs H Q E h => ?_) (fun cdv A outer s H vs Q E hr h => ?_)
  · obtain ⟨p, t, q, c, rfl, _⟩ := h
    rfl
  · obtain ⟨p, t, q, c, rfl, hp, fr, k⟩ := h
    have nd := sc__law_form_text.nd
    refine ⟨_, (pss_cons (ps_asg (pv 0) (pg_tup rfl (pgs_cons (pg_name (i := 1) nd rfl (Or.inl rfl)) (pgs_cons (pg_name (i := 2) nd rfl (Or.inl rfl)) (pgs_cons (pg_name (i := 3) nd rfl (Or.inl rfl)) pgs_nil)))))
    (pss_cons (ps_set (i := 4) nd rfl (Or.inl rfl) (pe_callTy call_str_int (by rfl) T.z_str (by decide +kernel) (pa_cons (pv 2) pa_nil)))
    (pss_cons (ps_if (pt_cmpR op_ne (pv 1) pe_int (nomark _)) (pss_cons (ps_set (i := 4) nd rfl (Or.inl rfl) (pe_op op_add_str (pe_op op_add_str (pe_ifExp (pt_cmpR op_lt (pv 1) pe_int (nomark _)) pe_str pe_str) (pe_ifExp (pt_cmpR op_gt (pe_callB call_abs (by rfl) T.z_abs (by decide +kernel) (pa_cons (pv 1) pa_nil)) pe_int (nomark _)) (pe_callTy call_str_int (by rfl) T.z_str (by decide +kernel) (pa_cons (pe_callB call_abs (by rfl) T.z_abs (by decide +kernel) (pa_cons (pv 1) pa_nil)) pa_nil)) pe_str)) pe_str))
    (pss_one (ps_if (pt_cmpR op_ne (pv 2) pe_int (nomark _)) (pss_one (ps_set (i := 4) nd rfl (Or.inl rfl) (pe_op op_add_str (pe_op op_add_str (pv 4) (pe_ifExp (pt_cmpR op_gt (pv 2) pe_int (nomark _)) pe_str pe_str)) (pe_callTy call_str_int (by rfl) T.z_str (by decide +kernel) (pa_cons (pv 2) pa_nil))))) pss_nil))) pss_nil)
    (pss_one (ps_ret (pe_ifExp (pt_cmpR op_eq (pv 3) pe_int (nomark _)) (pv 4) (pe_op op_add_str (pe_op op_add_str (pe_op op_add_str pe_str (pv 4)) pe_str) (pe_callTy call_str_int (by rfl) T.z_str (by decide +kernel) (pa_cons (pv 3) pa_nil))))))))), ?_⟩
    refine ⟨_, rfl, p, _, rfl, hp, rfl, _, _, rfl, _, _, rfl, _, _, rfl, rfl, ?_⟩
    dsimp only [gName]
    have t1 := fr.t1
    have q1 := fr.q1
    have c1 := fr.c1
    have c2 := fr.c2
    have mt : Mid t := by unfold Mid; omega
    have ma : Mid (t.natAbs : Int) := by unfold Mid; omega
    have mq : Mid q := by unfold Mid; omega
    have mc : Mid c := by unfold Mid; omega
    have lt := log_small mt
    have la := log_small ma
    have lq := log_small mq
    have lc := log_small mc
    have b1 := nS_mid mt
    have b2 := nS_mid mq
    have b3 := front_len mt
    have b4 := plus_len mq
    have b5 := upper_len mt mq
    have b6 := nS_mid mc
    have b7 := nS_mid ma
    have e9 := sizeLine_eq
    have w1 : (Str.ofString "n").length = 1 := by decide
    have w2 : (Str.ofString "(").length = 1 := by decide
    have w3 : (Str.ofString ")/").length = 2 := by decide
    have w4 : (Str.ofString "+").length = 1 := by decide
    have w5 : (Str.ofString "").length = 0 := by decide
    have w6 : (Str.ofString "-").length = 1 := by decide
    have b1' : (Str.ofString (toString t)).length ≤ 19 := b1
    have b2' : (Str.ofString (toString q)).length ≤ 19 := b2
    have b6' : (Str.ofString (toString c)).length ≤ 19 := b6
    have b7' : (Str.ofString (toString (t.natAbs : Int))).length ≤ 19 := b7
    have eabs : (if t < 0 then -t else t) = (t.natAbs : Int) := by split <;> omega
    have ef := front2 (t := t)
    refine asg_go ⟨_, rfl, _, rfl, lq, ?_⟩
    dsimp only [gName]
    refine seq_k (C := fun σ' H' => H' = H ∧ σ' = [some (.ref p), some (.int t), some (.int q), some (.int c), some (.str (upperS t q))]) (fun σ' H' hC => ?fin) (fun R hR => ?_)
    case fin =>
      obtain ⟨rfl, rfl⟩ := hC
      refine ret_go ?_
      refine ⟨_, rfl, rfl, _, rfl, ?_⟩
      have un : formText t q c = if c = 1 then upperS t q else Str.ofString "(" ++ (upperS t q ++ (Str.ofString ")/" ++ nS c)) := rfl
      by_cases h1 : c = 1
      · rw [if_pos h1] at un
        refine ifT (by rw [h1]; exact decide_eq_true rfl) ⟨_, rfl, ?_⟩
        rw [← un]
        exact k _ (Same.refl _)
      · rw [if_neg h1] at un
        refine ifF (decide_eq_false fun z => h1 (by injection z)) ?_
        refine ⟨_, rfl, _, _, rfl, rfl, by omega, _, _, rfl, rfl, by rw [Str.length_append]; omega, _, rfl, _, rfl, lc, _, _, rfl, rfl, by simp only [Str.length_append]; omega, ?_⟩
        have z := k _ (Same.refl _)
        rw [un] at z
        have ea : ∀ x : Str, Str.ofString "(" ++ upperS t q ++ Str.ofString ")/" ++ x = Str.ofString "(" ++ (upperS t q ++ (Str.ofString ")/" ++ x)) := fun x => tl_inj (by simp only [TL.tl_append, List.append_assoc])
        rw [← ea] at z
        exact z
    have up : upperS t q = if t = 0 then nS q else if q = 0 then frontS t else frontS t ++ plusS q := rfl
    refine ⟨_, rfl, rfl, _, rfl, ?_⟩
    by_cases h0 : t = 0
    · rw [if_pos h0] at up
      refine ifF (by rw [h0]; rfl) ?_
      exact hR _ _ ⟨rfl, by rw [up]; rfl⟩
    rw [if_neg h0] at up
    have ef := ef h0
    refine ifT (by rw [decide_eq_false (fun z => h0 (by injection z))]; rfl) ?_
    refine asg_go (val_go (v := .str (frontS t)) (fun R2 hR2 => ?_) ?_)
    · by_cases hn : t < 0
      · rw [if_pos hn] at ef
        refine ⟨_, rfl, _, _, rfl, rfl, _, rfl, ifT (decide_eq_true hn) ?_⟩
        refine ⟨_, rfl, _, rfl, _, _, rfl, rfl, _, rfl, ?_⟩
        rw [eabs]
        by_cases h1 : 1 < (t.natAbs : Int)
        · rw [if_pos h1] at ef
          refine ifT (decide_eq_true h1) ?_
          refine ⟨_, rfl, _, rfl, _, rfl, by rw [eabs]; exact la, _, _, rfl, rfl, by rw [eabs]; omega, _, _, rfl, rfl, by rw [eabs, Str.length_append]; omega, ?_⟩
          rw [eabs]
          rw [ef] at hR2
          exact hR2
        · rw [if_neg h1] at ef
          refine ifF (decide_eq_false h1) ?_
          refine ⟨_, _, rfl, rfl, by omega, _, _, rfl, rfl, by rw [Str.length_append]; omega, ?_⟩
          rw [ef] at hR2
          exact hR2
      · rw [if_neg hn] at ef
        refine ⟨_, rfl, _, _, rfl, rfl, _, rfl, ifF (decide_eq_false hn) ?_⟩
        refine ⟨_, rfl, _, rfl, _, _, rfl, rfl, _, rfl, ?_⟩
        rw [eabs]
        by_cases h1 : 1 < (t.natAbs : Int)
        · rw [if_pos h1] at ef
          refine ifT (decide_eq_true h1) ?_
          refine ⟨_, rfl, _, rfl, _, rfl, by rw [eabs]; exact la, _, _, rfl, rfl, by rw [eabs]; omega, _, _, rfl, rfl, by rw [eabs, Str.length_append]; omega, ?_⟩
          rw [eabs]
          rw [ef] at hR2
          exact hR2
        · rw [if_neg h1] at ef
          refine ifF (decide_eq_false h1) ?_
          refine ⟨_, _, rfl, rfl, by omega, _, _, rfl, rfl, by rw [Str.length_append]; omega, ?_⟩
          rw [ef] at hR2
          exact hR2
    dsimp only [gName]
    refine ifs_go ?_
    refine ⟨_, rfl, rfl, _, rfl, ?_⟩
    by_cases h2 : q = 0
    · rw [if_pos h2] at up
      refine ifF (by rw [h2]; rfl) ?_
      exact hR _ _ ⟨rfl, by rw [up]; rfl⟩
    · rw [if_neg h2] at up
      refine ifT (by rw [decide_eq_false (fun z => h2 (by injection z))]; rfl) ?_
      have pl : plusS q = if q < 0 then nS q else Str.ofString "+" ++ nS q := rfl
      by_cases hp2 : 0 < q
      · rw [if_neg (by omega)] at pl
        refine ⟨_, rfl, _, rfl, _, _, rfl, rfl, _, rfl, ifT (decide_eq_true hp2) ?_⟩
        refine ⟨_, _, rfl, rfl, by omega, _, rfl, _, rfl, lq, _, _, rfl, rfl, by rw [Str.length_append]; omega, ?_⟩
        refine hR _ _ ⟨rfl, ?_⟩
        rw [up, pl]
        have ea : ∀ x y z : Str, x ++ y ++ z = x ++ (y ++ z) := fun x y z => tl_inj (by simp only [TL.tl_append, List.append_assoc])
        rw [← ea]
        rfl
      · rw [if_pos (by omega)] at pl
        refine ⟨_, rfl, _, rfl, _, _, rfl, rfl, _, rfl, ifF (decide_eq_false hp2) ?_⟩
        refine ⟨_, _, rfl, rfl, by omega, _, rfl, _, rfl, lq, _, _, rfl, rfl, by rw [Str.length_append]; omega, ?_⟩
        refine hR _ _ ⟨rfl, ?_⟩
        rw [up, pl]
        have ea : ∀ x y z : Str, x ++ y ++ z = x ++ (y ++ z) := fun x y z => tl_inj (by simp only [TL.tl_append, List.append_assoc])
        rw [show frontS t ++ nS q = frontS t ++ Str.ofString "" ++ nS q by rw [ea, nil_cat]]
        rfl

/-! the law's own text of a plan, and the package's plan of it -/
theorem ok_plan_text (T : Txt K mg) : FnOk P w K mg base CX0 3 T.a__law_plan_text T.d__law_plan_text ["_law_drawn"] (spPlanText K) := by
  have G__law_form_text : FnOk P w K mg base CX0 1 T.a__law_form_text T.d__law_form_text ["_law_form"] (spFormText K) := ok_form_text T
  refine T.F__law_plan_text.ok sc__law_plan_text (fun vs H Q E h => ?_) (fun cdv A outer s H vs Q E hr h => ?_)
  · obtain ⟨a, b, bs, ds, rfl, _⟩ := h
    rfl
  · obtain ⟨a, b, bs, ds, rfl, ha, hbs, dl, k⟩ := h
    have nd := sc__law_plan_text.nd
    refine ⟨_, (pss_cons (ps_set (i := 1) nd rfl (Or.inl rfl) (pe_lst pa_nil))
    (pss_cons (ps_for PassesOwn.never rfl (pi_list (pv 0)) (pg_tup rfl (pgs_cons (pg_name (i := 2) nd rfl (Or.inl rfl)) (pgs_cons (pg_name (i := 3) nd rfl (Or.inl rfl)) pgs_nil)))
    (pss_cons (ps_expr (pe_bm PySem.F.plainAttrs_list PySem.F.slot_list_append PySem.F.type_list_append mt_append (pv 1) (pa_cons (pe_op op_add_str pe_str (pe_call G__law_form_text (hr.mono (by first | decide | omega)) (by rfl) T.m__law_form_text T.k__law_form_text T.b__law_form_text .nil pass0 (pa_cons (pv 2) pa_nil))) pa_nil)))
    (pss_one (ps_expr (pe_bm PySem.F.plainAttrs_list PySem.F.slot_list_extend PySem.F.type_list_extend mt_extend (pv 1) (pa_cons (pe_lc (own := [("_law_lane", 4)]) (g := (gName 4)) (by rfl) nd (pi_list (pv 3)) (blkOk_by (N := ["_law_drawn", "_law_lines", "_law_form", "_law_lanes", "_law_lane"]) (sc := defScope s__law_plan_text) (own := [("_law_lane", 4)]) (by decide +kernel)) (fun _ _ _ _ _ => by exact (pg_name (i := 4) nd rfl (Or.inl rfl))) (fun _ _ _ _ _ => by exact pts_nil) (fun _ _ _ _ _ => by exact (pe_joinK (K := K) rfl rfl pe_str (pe_lst (pa_cons (pe_ix (ix_tupK (K := K) rfl) (pv 4) pe_int (fun _ _ => rfl)) (pa_cons (pe_ix (ix_tupK (K := K) rfl) (pv 4) pe_int (fun _ _ => rfl)) (pa_cons (pe_call G__law_form_text (hr.mono (by first | decide | omega)) (by rfl) T.m__law_form_text T.k__law_form_text T.b__law_form_text .nil pass0 (pa_cons (pe_ix (ix_tupK (K := K) rfl) (pv 4) pe_int (fun _ _ => rfl)) pa_nil)) (pa_cons (pe_ix (ix_tupK (K := K) rfl) (pv 4) pe_int (fun _ _ => rfl)) pa_nil)))))))) pa_nil))))))
    (pss_one (ps_ret (pe_join pe_str (pv 1)))))), ?_⟩
    have e9 := sizeLine_eq
    have lb := hbs.length
    refine ⟨szL (Nat.le_of_ble_eq_true rfl), fun F nF => ?_⟩
    refine ⟨_, rfl, a, rfl, ⟨_, SqL.of (same_new nF _ _ ha)⟩, for_list (xs := bs) (fun i σ Hc => ∃ y2 y3, σ = [some (.ref a), some (.ref F), y2, y3, none] ∧ Hc F = some (.lst (((ds.take i).flatMap blockLines).map V.str)) ∧ Same H Hc)
      ⟨none, none, rfl, by rw [upd_same, List.take_zero]; rfl, same_new nF⟩ (fun i σ Hc _ hP => ?_) (fun i x σ Hc hx hP => ?_) (fun σ Hc hP => ?_)⟩
    · obtain ⟨_, _, _, _, sc⟩ := hP
      exact SqL.of (sc _ _ ha)
    · obtain ⟨y2, y3, rfl, hF, sc⟩ := hP
      obtain ⟨d, ed, hd⟩ := hbs.get hx
      have hn := (List.getElem?_eq_some_iff.mp hx).1
      obtain ⟨p, f, L, vs, rfl, hp, hf, _, hL, hvs, di⟩ := hd
      have small := flat_len (ds := ds.take i) (fun d h => di_all hbs d (List.mem_of_mem_take h))
      have l9 : (ds.take i).length ≤ 10 := by rw [List.length_take]; omega
      refine ⟨p, _, rfl, SqT.of (sc _ _ hp), rfl, _, _, rfl, _, _, rfl, rfl, ?_⟩
      refine ⟨_, rfl, .inl ⟨rfl, _, SqL.of hF⟩, ?_⟩
      refine ⟨_, rfl, f, _, _, _, rfl, SqT.of (sc _ _ hf), di.r.r, fun H1 s1 => ?_⟩
      have fl := form_len di.r.r
      have w1 : (Str.ofString "rounds ").length = 7 := by decide
      refine ⟨_, _, rfl, rfl, by omega, ?_⟩
      refine ⟨F, _, _, rfl, rfl, s1 _ _ hF, by rw [List.length_map]; omega, ?_⟩
      have s2 : Same H (upd H1 F (.lst (((ds.take i).flatMap blockLines).map V.str ++ [.str (Str.ofString "rounds " ++ formText d.t d.q d.c)]))) := same_lst (sc.trans s1) nF
      have hF2 : upd H1 F (.lst (((ds.take i).flatMap blockLines).map V.str ++ [.str (Str.ofString "rounds " ++ formText d.t d.q d.c)])) F = some (.lst (((ds.take i).flatMap blockLines).map V.str ++ [.str (Str.ofString "rounds " ++ formText d.t d.q d.c)])) := upd_same
      generalize upd H1 F _ = H2 at s2 hF2 ⊢
      dsimp only [tDrop]
      have lv := hvs.length
      have dl1 := di.l1
      refine ⟨_, rfl, .inl ⟨rfl, _, SqL.of hF2⟩, ?_⟩
      refine ⟨_, rfl, L, rfl, ⟨_, SqL.of (s2 _ _ hL)⟩, fun D hD => ?_⟩
      refine lc_list (xs := vs) (fun j Hd => Hd D = some (.lst (((d.ls.map laneText).take j).map V.str)) ∧ Same H2 Hd) ⟨by rw [upd_same, List.take_zero]; rfl, same_new hD⟩ (fun j Hd _ hP => SqL.of (hP.2 _ _ (s2 _ _ hL))) (fun j y Hd hy hP => ?_) (fun Hd hP => ?_)
      · obtain ⟨hDd, sd⟩ := hP
        obtain ⟨l, el, hl⟩ := hvs.get hy
        have hj := (List.getElem?_eq_some_iff.mp hy).1
        obtain ⟨q, g, rfl, hq, hg, li⟩ := hl.same (s2.trans sd)
        refine ⟨rfl, ⟨_, rfl⟩, _, rfl, _, _, _, _, rfl, rfl, SqT.of hq, rfl, _, rfl, _, _, _, _, rfl, rfl, SqT.of hq, rfl, _, rfl, _, _, _, _, rfl, rfl, SqT.of hq, rfl, g, _, _, _, rfl, SqT.of hg, li.r, fun H3 s3 => ?_⟩
        refine ⟨_, rfl, _, _, _, _, rfl, rfl, SqT.of (s3 _ _ hq), rfl, szL (Nat.le_of_ble_eq_true rfl), fun E nE => ?_⟩
        have z1 := form_len li.r
        have z2 := small_word (.inl li.w)
        have z3 := small_word (.inr (.inl li.s))
        have z4 := small_word (.inr (.inr li.d))
        have z5 : blank.length = 1 := by decide
        have eg : (d.ls.map laneText)[j]? = some (laneText l) := by
          rw [List.getElem?_map, el]
          rfl
        have s4 := s3.trans (same_new (o := .lst [.str l.w, .str l.s, .str (formText l.t l.q l.c), .str l.d]) nE)
        refine ⟨blank, E, [l.w, l.s, formText l.t l.q l.c, l.d], rfl, rfl, .inl (SqL.of upd_same), by simp [z5]; omega, ?_⟩
        exact ⟨_, s4 _ _ hDd, szl (by rw [List.length_map, List.length_take, List.length_map]; omega), by rw [upd_same, take_snoc eg, List.map_append]; rfl, same_lst (sd.trans s4) hD⟩
      · obtain ⟨hDd, sd⟩ := hP
        rw [lv, show d.ls.length = (d.ls.map laneText).length by rw [List.length_map], List.take_length] at hDd
        refine ⟨F, D, _, _, rfl, rfl, sd _ _ hF2, hDd, by simp only [List.length_append, List.length_map, List.length_cons, List.length_nil]; omega, ?_⟩
        refine ⟨_, _, rfl, ?_, same_lst (s2.trans sd) nF⟩
        rw [upd_same, take_snoc ed, List.flatMap_append, List.map_append, List.flatMap_cons, List.flatMap_nil, List.append_nil, List.append_assoc]
        rfl
    · obtain ⟨y2, y3, rfl, hF, sc⟩ := hP
      rw [lb, List.take_length] at hF
      dsimp only
      refine ret_go ?_
      refine ⟨⟨_, rfl⟩, _, rfl, nl, F, _, rfl, rfl, .inl (SqL.of hF), flat_small dl (di_all hbs), ?_⟩
      exact k _ sc
def spPlanOfD (K : PySem.W.Frag) (CP CB CL CF : Addr) : Sp := fun vs H Q _ => ∃ (a b : Addr) (bs : List V) (ds : List BD), vs = [.ref a] ∧ H a = some (.lst bs) ∧ AllR (BlockV b H) bs ds ∧ ds.length ≤ 10 ∧ ∀ u H', Same H H' → PlanE K CP CB CL CF H' u ds → Q u H'
theorem ok_plan_ofD (T : Txt K mg) : FnOk P w K mg base CX0 9 T.a__law_plan_of T.d__law_plan_of ["_law_drawn"] (spPlanOfD K T.c_Plan T.c_Block T.c_Lane T.c_Form) := by
  have G__law_plan_text : FnOk P w K mg base CX0 3 T.a__law_plan_text T.d__law_plan_text ["_law_drawn"] (spPlanText K) := ok_plan_text T
  have R_Plan_read : FnR P w K mg base CX0 8 T.a_Plan_read (spPRead K T.c_Plan T.c_Block T.c_Lane T.c_Form) := fnR (ok_pread T) T.b_Plan_read
  refine T.F__law_plan_of.ok sc__law_plan_of (fun vs H Q E h => ?_) (fun cdv A outer s H vs Q E hr h => ?_)
  · obtain ⟨a, b, bs, ds, rfl, _⟩ := h
    rfl
  · obtain ⟨a, b, bs, ds, rfl, ha, hbs, dl, k⟩ := h
    have nd := sc__law_plan_of.nd
    refine ⟨_, (pss_one (ps_ret (ClX.pe_cmeth (pe_glob rfl T.m_Plan (rel_ref _)) T.R_Plan T.G_Plan_read R_Plan_read (hr.mono (by first | decide | omega)) pass0 (pa_cons (pe_call G__law_plan_text (hr.mono (by first | decide | omega)) (by rfl) T.m__law_plan_text T.k__law_plan_text T.b__law_plan_text .nil pass0 (pa_cons (pv 0) pa_nil)) pa_nil)))), ?_⟩
    refine ret_go ?_
    refine ⟨rfl, _, rfl, a, b, bs, ds, rfl, ha, hbs, dl, fun H1 s1 => ?_⟩
    exact ⟨ds, rfl, dl, di_all hbs, fun u H2 s2 hu => k u H2 (s1.trans s2) hu⟩

end
end K17
namespace K17
open PySem PySem.Spec PyProof.Rows L2 Rs
local macro_rules | `(tactic| walk_at "om") => `(tactic| first | omega | (dsimp only; omega))
local macro_rules | `(tactic| walk_at "side") => `(tactic| first | omega | (dsimp only; omega) | decide | (unfold CMul; omega) | (unfold CDiv; omega) | (unfold CPow; omega) | exact wide_div (b := 64) (by omega) (by omega) (by decide) (by decide))
local macro_rules | `(tactic| walk_at "hp") => `(tactic| first | assumption | exact upd_same)
local macro_rules | `(tactic| walk_at "sq") => `(tactic| first | assumption | exact SqL.of (by assumption) | exact SqL.of upd_same)
local macro_rules | `(tactic| walk_at "st") => `(tactic| first
  | refine ⟨_, rfl, ?_⟩
  | (refine ⟨_, _, rfl, rfl, And.intro ?side ?_⟩; (case side => walk_at "side"))
  | refine ⟨_, _, rfl, rfl, ?_⟩
  | (refine' ⟨_, _, _, _, rfl, rfl, SqL.of ?hp, ?atx, ?_⟩; (case hp => walk_at "hp"); (case atx => exact rfl))
  | (refine' ⟨_, _, _, _, rfl, rfl, ?hp, ?atx, ?_⟩; (case hp => walk_at "hp"); (case atx => exact rfl))
  | (refine' ⟨_, _, rfl, Or.inl ?sq, ?_⟩; (case sq => walk_at "sq"))
  | refine Or.inl ⟨_, rfl, ?_⟩
  | refine Or.inr ⟨_, rfl, ?_⟩)
local macro_rules | `(tactic| walk_at "evd") => `(tactic| first
  | exact evd_int
  | exact evd_str
  | exact evd_non
  | exact evd_bl
  | exact evd_nil
  | (refine evd_cons ?_ (fun _ => ?_) <;> walk_at "evd")
  | (refine evd_tup ?_ (Nat.le_of_ble_eq_true rfl); walk_at "evd"))

section
variable {P : Program} {w : World} {K : PySem.W.Frag} {mg : Str → Option Value} {base : Heap}
/-! the law's usual plans: what is displayed, with its data -/
/-- a drawn block; its list of lanes stands nowhere where N says -/
def BlockN (N : Addr → Prop) (H : Hp) (v : V) (d : BD) : Prop := ∃ p f L vs, v = .ref p ∧ H p = some (.tup [.ref f, .ref L]) ∧ H f = some (.tup [.int d.t, .int d.q, .int d.c]) ∧ ¬ N L ∧ H L = some (.lst vs) ∧ AllR (LaneV H) vs d.ls ∧ BI d
theorem BlockN.v {N : Addr → Prop} {H : Hp} {v : V} {d : BD} {b : Addr} (h : BlockN N H v d) (nb : N b) : BlockV b H v d := by
  obtain ⟨p, f, L, vs, e, hp, hf, n, hL, a, i⟩ := h
  exact ⟨p, f, L, vs, e, hp, hf, fun z => n (by rw [z]; exact nb), hL, a, i⟩
theorem BlockN.off {N : Addr → Prop} {H : Hp} {v : V} {d : BD} {b : Addr} (h : BlockN N H v d) (nb : N b) : Off b H v := by
  obtain ⟨p, f, L, vs, e, hp, hf, n, hL, a, i⟩ := h
  exact ⟨p, .ref f, L, e, hp, fun z => n (by rw [z]; exact nb)⟩
theorem BlockN.same {N : Addr → Prop} {H H' : Hp} {v : V} {d : BD} (h : BlockN N H v d) (k : Same H H') : BlockN N H' v d := by
  obtain ⟨p, f, L, vs, e, hp, hf, n, hL, a, i⟩ := h
  exact ⟨p, f, L, vs, e, k _ _ hp, k _ _ hf, n, k _ _ hL, a.mono fun v l h => h.same k, i⟩
theorem BlockN.but {N : Addr → Prop} {b : Addr} {H H' : Hp} {v : V} {d : BD} (h : BlockN N H v d) (nb : N b) (B : Box H b) (k : But b H H') : BlockN N H' v d := by
  obtain ⟨p, f, L, vs, e, hp, hf, n, hL, a, i⟩ := h
  have z := B.fz k
  exact ⟨p, f, L, vs, e, z _ _ trivial hp, z _ _ trivial hf, n, k _ _ (fun z => n (by rw [z]; exact nb)) hL, a.mono fun v l h => h.fz z, i⟩
theorem BlockN.mono {N M : Addr → Prop} {H : Hp} {v : V} {d : BD} (h : BlockN N H v d) (k : ∀ a, M a → N a) : BlockN M H v d := by
  obtain ⟨p, f, L, vs, e, hp, hf, n, hL, a, i⟩ := h
  exact ⟨p, f, L, vs, e, hp, hf, fun z => n (k _ z), hL, a, i⟩
theorem BlockN.di {N : Addr → Prop} {H : Hp} {v : V} {d : BD} (h : BlockN N H v d) : BI d := by
  obtain ⟨p, f, L, vs, e, hp, hf, n, hL, a, i⟩ := h
  exact i
/-- a list of drawn blocks at F -/
def PlanN (N : Addr → Prop) (H : Hp) (F : Addr) (ds : List BD) : Prop := ∃ bs, H F = some (.lst bs) ∧ ¬ N F ∧ AllR (fun v d => BlockN N H v d ∧ Off F H v) bs ds
theorem PlanN.same {N : Addr → Prop} {H H' : Hp} {F : Addr} {ds : List BD} (h : PlanN N H F ds) (k : Same H H') : PlanN N H' F ds := by
  obtain ⟨bs, hF, n, a⟩ := h
  exact ⟨bs, k _ _ hF, n, a.mono fun v d h => ⟨h.1.same k, h.2.fz (Fz.of_same k)⟩⟩
theorem PlanN.but {N : Addr → Prop} {b : Addr} {H H' : Hp} {F : Addr} {ds : List BD} (h : PlanN N H F ds) (nb : N b) (B : Box H b) (k : But b H H') : PlanN N H' F ds := by
  obtain ⟨bs, hF, n, a⟩ := h
  exact ⟨bs, k _ _ (fun z => n (by rw [z]; exact nb)) hF, n, a.mono fun v d h => ⟨h.1.but nb B k, h.2.fz (B.fz k)⟩⟩
theorem evx_c {i : Int} {σ : L2.St} : EvI (tC (.int i)) σ i := ⟨fun _ _ q => q⟩
theorem evx_neg {i : Int} {σ : L2.St} : EvI (tUn (rU fun i => V.int (-i)) (tC (.int i))) σ (-i) := ⟨fun _ _ q => ⟨_, rfl, q⟩⟩
section
variable {σ : L2.St} {N : Addr → Prop} {H : Hp}
theorem evx_form {a b c : TE} {t q k : Int} (ha : EvI a σ t) (hb : EvI b σ q) (hc : EvI c σ k) (h : FB t q k) : EvP (tTup (tCons a (tCons b (tCons c tNil)))) σ H fun H v => FormV H v t q k := fun Q g =>
  ha.go _ _ (hb.go _ _ (hc.go _ _ ⟨szL (Nat.le_of_ble_eq_true rfl), fun p np => g _ _ (same_new np) ⟨p, rfl, upd_same, h⟩⟩))
theorem evx_lane {te : TE} {x y z : Str} {t q c : Int} (hf : EvP te σ H fun H v => FormV H v t q c) (hx : x ∈ ways) (hy : y ∈ signs) (hz : z ∈ deeds) : EvP (tTup (tCons (tC (.str x)) (tCons (tC (.str y)) (tCons te (tCons (tC (.str z)) tNil))))) σ H fun H v => LaneV H v ⟨x, y, t, q, c, z⟩ := fun Q g =>
  hf _ fun f H1 s1 d => ⟨szL (Nat.le_of_ble_eq_true rfl), fun p np => by
    obtain ⟨r, rfl, hr, fb⟩ := d
    exact g _ _ (s1.trans (same_new np)) ⟨p, r, rfl, upd_same, same_new np _ _ hr, ⟨hx, hy, hz, fb.t1, fb.t2, fb.q1, fb.q2, fb.c1, fb.c2⟩⟩⟩
/-- values one behind another -/
def EvL (ta : TA) (σ : L2.St) (H : Hp) {α : Type} (R : Hp → V → α → Prop) (ls : List α) : Prop := ∀ Q : List V → Hp → Prop, (∀ vs H', Same H H' → AllR (R H') vs ls → Q vs H') → ta σ H Q
theorem evl_nil {α : Type} {R : Hp → V → α → Prop} : EvL tNil σ H R [] := fun Q g => g _ _ (Same.refl _) .nil
theorem evl_cons {α : Type} {R : Hp → V → α → Prop} {te : TE} {ta : TA} {l : α} {ls : List α} (mono : ∀ H H' v l, Same H H' → R H v l → R H' v l) (h : EvP te σ H fun H v => R H v l) (q : ∀ H1, Same H H1 → EvL ta σ H1 R ls) : EvL (tCons te ta) σ H R (l :: ls) := fun Q g =>
  h _ fun v H1 s1 r => q H1 s1 _ fun vs H2 s2 rs => g _ _ (s1.trans s2) (.cons (mono _ _ _ _ s2 r) rs)
def LanesN (N : Addr → Prop) (ls : List LD) (H : Hp) (v : V) : Prop := ∃ L vs, v = .ref L ∧ ¬ N L ∧ H L = some (.lst vs) ∧ AllR (LaneV H) vs ls
theorem LanesN.same {H' : Hp} {ls : List LD} {v : V} (h : LanesN N ls H v) (s : Same H H') : LanesN N ls H' v := by
  obtain ⟨L, vs, e, n, hL, a⟩ := h
  exact ⟨L, vs, e, n, s _ _ hL, a.mono fun v l h => h.same s⟩
theorem lane_mono (H H' : Hp) (v : V) (l : LD) (s : Same H H') (h : LaneV H v l) : LaneV H' v l := h.same s
theorem new_not {H H' : Hp} {l : Addr} (hN : ∀ a, N a → H a ≠ none) (s : Same H H') (n : H' l = none) : ¬ N l := fun z => by
  cases e : H l with
  | none => exact hN _ z e
  | some o => rw [s _ _ e] at n; cases n
theorem evx_lanes {ta : TA} {ls : List LD} (hN : ∀ a, N a → H a ≠ none) (h : EvL ta σ H LaneV ls) (l : ls.length ≤ 1000) : EvP (tLst ta) σ H (LanesN N ls) := fun Q g =>
  h _ fun vs H1 s1 rs => ⟨szL (by rw [rs.length]; exact l), fun L nL => g _ _ (s1.trans (same_new nL)) ⟨L, vs, rfl, new_not hN s1 nL, upd_same, rs.mono fun v l h => h.same (same_new nL)⟩⟩
theorem evx_block {te tl : TE} {t q c : Int} {ls : List LD} (hf : EvP te σ H fun H v => FormV H v t q c) (hl : ∀ H1, Same H H1 → EvP tl σ H1 (LanesN N ls)) (l0 : 0 < ls.length) (l1 : ls.length ≤ 60) : EvP (tTup (tCons te (tCons tl tNil))) σ H fun H v => BlockN N H v ⟨t, q, c, ls⟩ := fun Q g =>
  hf _ fun f H1 s1 hf => hl H1 s1 _ fun L H2 s2 hL => ⟨szL (Nat.le_of_ble_eq_true rfl), fun p np => by
    obtain ⟨r, rfl, hr, fb⟩ := hf
    obtain ⟨a, vs, rfl, na, ha, hv⟩ := hL
    have s3 := same_new (o := .tup [.ref r, .ref a]) np
    have hli : ∀ l ∈ ls, LI l := by
      have go : ∀ {vs : List V} {ls : List LD}, AllR (LaneV H2) vs ls → ∀ l ∈ ls, LI l := by
        intro vs ls h
        induction h with
        | nil => intro l h; cases h
        | cons z _ ih =>
          intro l h
          rcases List.mem_cons.mp h with h | h
          · subst h
            obtain ⟨_, _, _, _, _, i⟩ := z
            exact i
          · exact ih l h
      exact go hv
    exact g _ _ ((s1.trans s2).trans s3) ⟨p, r, a, vs, rfl, upd_same, s3 _ _ (s2 _ _ hr), na, s3 _ _ ha, hv.mono fun v l h => h.same s3, ⟨fb, l0, l1, hli⟩⟩⟩
theorem blockN_mono (H H' : Hp) (v : V) (l : BD) (s : Same H H') (h : BlockN N H v l) : BlockN N H' v l := h.same s
theorem evx_plan {ta : TA} {ds : List BD} (hN : ∀ a, N a → H a ≠ none) (h : EvL ta σ H (BlockN N) ds) (l : ds.length ≤ 1000) : EvP (tLst ta) σ H fun H v => ∃ F, v = .ref F ∧ PlanN N H F ds := fun Q g =>
  h _ fun vs H1 s1 rs => ⟨szL (by rw [rs.length]; exact l), fun L nL => g _ _ (s1.trans (same_new nL)) ⟨L, rfl, vs, upd_same, new_not hN s1 nL, rs.mono fun v d h => by
    refine ⟨h.same (same_new nL), ?_⟩
    obtain ⟨p, f, M, vs, e, hp, hf, n, hM, a, i⟩ := h
    exact ⟨p, .ref f, M, e, same_new nL _ _ hp, ne_of_none hM nL⟩⟩⟩
end
theorem but_some {b : Addr} {H H2 : Hp} (B : Box H2 b) (k : But b H H2) : ∀ a, H a ≠ none → H2 a ≠ none := fun a n e => by
  by_cases c : a = b
  · subst c
    obtain ⟨x, y, z, hb, _⟩ := B
    rw [hb] at e
    cases e
  · cases e2 : H a with
    | none => exact n e2
    | some o => rw [k a _ c e2] at e; cases e
theorem Ns {N : Addr → Prop} {H H2 : Hp} (s : Same H H2) (hN : ∀ a, N a → H a ≠ none) : ∀ a, N a → H2 a ≠ none := fun a n e => by
  cases e2 : H a with
  | none => exact hN a n e2
  | some o => rw [s _ _ e2] at e; cases e
local macro_rules | `(tactic| walk_at "form") => `(tactic| (refine evx_form ?_ ?_ ?_ ?_ <;> first | exact evx_c | exact evx_neg | exact ⟨by decide, by decide, by decide, by decide, by decide, by decide⟩))
abbrev S (s : String) : Str := Str.ofString s
def usualD : List (List BD) := [
  [⟨1, -1, 1, [⟨S "up", S "-", 0, 0, 1, S "add"⟩]⟩, ⟨1, -1, 1, [⟨S "up", S "-", 0, 1, 1, S "put"⟩]⟩],
  [⟨1, -1, 1, [⟨S "down", S "+", 0, 0, 1, S "add"⟩]⟩, ⟨1, -1, 1, [⟨S "down", S "+", 0, -1, 1, S "put"⟩]⟩],
  [⟨1, 0, 2, [⟨S "up", S "-", 1, 0, 2, S "add"⟩, ⟨S "down", S "+", 1, 1, 2, S "add"⟩]⟩, ⟨1, 0, 2, [⟨S "up", S "-", 0, 0, 1, S "put"⟩, ⟨S "down", S "+", 0, 0, 1, S "put"⟩]⟩]]
def spUsual : Sp := fun vs H Q _ => ∃ (b : Addr), vs = [.ref b] ∧ Box H b ∧ ∀ (F : Addr) (ds : List BD) (H' : Hp), ds ∈ usualD → PlanN (fun a => H a ≠ none) H' F ds → Box H' b → But b H H' → Q (.ref F) H'
theorem ok_usual (T : Txt K mg) : FnOk P w K mg base CX0 2 T.a__law_usual T.d__law_usual ["_law_box_here"] spUsual := by
  have G__law_take : FnOk P w K mg base CX0 1 T.a__law_take T.d__law_take ["_law_box_here", "_law_many"] spTake := ok_take T
  refine T.F__law_usual.ok sc__law_usual (fun vs H Q E h => ?_) (fun cdv A outer s H vs Q E hr h => ?_)
  · obtain ⟨b, rfl, _⟩ := h
    rfl
  · obtain ⟨b, rfl, hB, k⟩ := h
    have nd := sc__law_usual.nd
    refine ⟨_, (pss_cons (ps_set (i := 1) nd rfl (Or.inl rfl) (pe_call G__law_take (hr.mono (by first | decide | omega)) (by rfl) T.m__law_take T.k__law_take T.b__law_take .nil pass0 (pa_cons (pv 0) (pa_cons pe_int pa_nil))))
    (pss_cons (ps_if (pt_cmpR op_eq (pv 1) pe_int (nomark _)) (pss_one (ps_ret (pe_lst (pa_cons (pe_tup (pa_cons (pe_tup (pa_cons pe_int (pa_cons (pe_un un_neg pe_int) (pa_cons pe_int pa_nil)))) (pa_cons (pe_lst (pa_cons (pe_tup (pa_cons pe_str (pa_cons pe_str (pa_cons (pe_tup (pa_cons pe_int (pa_cons pe_int (pa_cons pe_int pa_nil)))) (pa_cons pe_str pa_nil))))) pa_nil)) pa_nil))) (pa_cons (pe_tup (pa_cons (pe_tup (pa_cons pe_int (pa_cons (pe_un un_neg pe_int) (pa_cons pe_int pa_nil)))) (pa_cons (pe_lst (pa_cons (pe_tup (pa_cons pe_str (pa_cons pe_str (pa_cons (pe_tup (pa_cons pe_int (pa_cons pe_int (pa_cons pe_int pa_nil)))) (pa_cons pe_str pa_nil))))) pa_nil)) pa_nil))) pa_nil))))) pss_nil)
    (pss_cons (ps_if (pt_cmpR op_eq (pv 1) pe_int (nomark _)) (pss_one (ps_ret (pe_lst (pa_cons (pe_tup (pa_cons (pe_tup (pa_cons pe_int (pa_cons (pe_un un_neg pe_int) (pa_cons pe_int pa_nil)))) (pa_cons (pe_lst (pa_cons (pe_tup (pa_cons pe_str (pa_cons pe_str (pa_cons (pe_tup (pa_cons pe_int (pa_cons pe_int (pa_cons pe_int pa_nil)))) (pa_cons pe_str pa_nil))))) pa_nil)) pa_nil))) (pa_cons (pe_tup (pa_cons (pe_tup (pa_cons pe_int (pa_cons (pe_un un_neg pe_int) (pa_cons pe_int pa_nil)))) (pa_cons (pe_lst (pa_cons (pe_tup (pa_cons pe_str (pa_cons pe_str (pa_cons (pe_tup (pa_cons pe_int (pa_cons (pe_un un_neg pe_int) (pa_cons pe_int pa_nil)))) (pa_cons pe_str pa_nil))))) pa_nil)) pa_nil))) pa_nil))))) pss_nil)
    (pss_cons (ps_set (i := 2) nd rfl (Or.inl rfl) (pe_lst (pa_cons (pe_tup (pa_cons pe_str (pa_cons pe_str (pa_cons (pe_tup (pa_cons pe_int (pa_cons pe_int (pa_cons pe_int pa_nil)))) (pa_cons pe_str pa_nil))))) (pa_cons (pe_tup (pa_cons pe_str (pa_cons pe_str (pa_cons (pe_tup (pa_cons pe_int (pa_cons pe_int (pa_cons pe_int pa_nil)))) (pa_cons pe_str pa_nil))))) pa_nil))))
    (pss_one (ps_ret (pe_lst (pa_cons (pe_tup (pa_cons (pe_tup (pa_cons pe_int (pa_cons pe_int (pa_cons pe_int pa_nil)))) (pa_cons (pv 2) pa_nil))) (pa_cons (pe_tup (pa_cons (pe_tup (pa_cons pe_int (pa_cons pe_int (pa_cons pe_int pa_nil)))) (pa_cons (pe_lst (pa_cons (pe_tup (pa_cons pe_str (pa_cons pe_str (pa_cons (pe_tup (pa_cons pe_int (pa_cons pe_int (pa_cons pe_int pa_nil)))) (pa_cons pe_str pa_nil))))) (pa_cons (pe_tup (pa_cons pe_str (pa_cons pe_str (pa_cons (pe_tup (pa_cons pe_int (pa_cons pe_int (pa_cons pe_int pa_nil)))) (pa_cons pe_str pa_nil))))) pa_nil))) pa_nil))) pa_nil))))))))), ?_⟩
    refine asg_go ?_
    refine ⟨_, rfl, b, 3, rfl, hB, by decide, by decide, fun r H1 r0 r1 B1 k1 => ?_⟩
    dsimp only [gName]
    refine seqif_go ?_
    refine ⟨_, rfl, rfl, _, rfl, ?_⟩
    have hN := but_some B1 k1
    have fin : ∀ (i : Nat) (ds : List BD) (te : TE) (σ : L2.St), usualD[i]? = some ds → EvP te σ H1 (fun H2 v => ∃ F, v = .ref F ∧ PlanN (fun a => H a ≠ none) H2 F ds) → te σ H1 Q := fun i ds te σ e ev => ev _ fun v H2 s2 ⟨F, ev, hF⟩ => by
      subst ev
      exact k F ds H2 (List.mem_of_getElem? e) hF (B1.same s2) (k1.trans (But.of_same s2))
    refine ifD (fun _ => ?_) (fun _ => ?_)
    · refine ret_go (fin 0 _ _ _ rfl ?_)
      refine evx_plan hN (evl_cons blockN_mono (evx_block (by walk_at "form") (fun H2 s2 => ?_) (by decide) (by decide)) fun H3 s3 => evl_cons blockN_mono (evx_block (by walk_at "form") (fun H2 s2 => ?_) (by decide) (by decide)) fun _ _ => evl_nil) (by decide)
      · exact evx_lanes (Ns s2 hN) (evl_cons lane_mono (evx_lane (by walk_at "form") (by decide) (by decide) (by decide)) fun _ _ => evl_nil) (by decide)
      · exact evx_lanes (Ns (s3.trans s2) hN) (evl_cons lane_mono (evx_lane (by walk_at "form") (by decide) (by decide) (by decide)) fun _ _ => evl_nil) (by decide)
    dsimp only [tNext]
    refine seqif_go ?_
    refine ⟨_, rfl, rfl, _, rfl, ?_⟩
    refine ifD (fun _ => ?_) (fun _ => ?_)
    · refine ret_go (fin 1 _ _ _ rfl ?_)
      refine evx_plan hN (evl_cons blockN_mono (evx_block (by walk_at "form") (fun H2 s2 => ?_) (by decide) (by decide)) fun H3 s3 => evl_cons blockN_mono (evx_block (by walk_at "form") (fun H2 s2 => ?_) (by decide) (by decide)) fun _ _ => evl_nil) (by decide)
      · exact evx_lanes (Ns s2 hN) (evl_cons lane_mono (evx_lane (by walk_at "form") (by decide) (by decide) (by decide)) fun _ _ => evl_nil) (by decide)
      · exact evx_lanes (Ns (s3.trans s2) hN) (evl_cons lane_mono (evx_lane (by walk_at "form") (by decide) (by decide) (by decide)) fun _ _ => evl_nil) (by decide)
    dsimp only [tNext]
    refine asg_go ?_
    refine evx_lanes (ls := [⟨S "up", S "-", 1, 0, 2, S "add"⟩, ⟨S "down", S "+", 1, 1, 2, S "add"⟩]) hN (evl_cons lane_mono (evx_lane (by walk_at "form") (by decide) (by decide) (by decide)) fun _ _ => evl_cons lane_mono (evx_lane (by walk_at "form") (by decide) (by decide) (by decide)) fun _ _ => evl_nil) (by decide) _ fun v H2 s2 hv => ?_
    dsimp only [gName]
    have fin2 := fun (te : TE) (σ : L2.St) (ev : EvP te σ H2 (fun H2 v => ∃ F, v = .ref F ∧ PlanN (fun a => H a ≠ none) H2 F usualD[2])) => (ev Q fun v H3 s3 ⟨F, ev, hF⟩ => by
      subst ev
      have s23 := s2.trans s3
      exact k F _ H3 (List.mem_of_getElem? (i := 2) rfl) hF (B1.same s23) (k1.trans (But.of_same s23)) : te σ H2 Q)
    refine ret_go (fin2 _ _ ?_)
    refine evx_plan (Ns s2 hN) (evl_cons blockN_mono (evx_block (by walk_at "form") (fun H3 s3 => ?_) (by decide) (by decide)) fun H3 s3 => evl_cons blockN_mono (evx_block (by walk_at "form") (fun H4 s4 => ?_) (by decide) (by decide)) fun _ _ => evl_nil) (by decide)
    · exact fun Q q => ⟨_, rfl, q _ _ (Same.refl _) (hv.same s3)⟩
    · exact evx_lanes (Ns (s2.trans (s3.trans s4)) hN) (evl_cons lane_mono (evx_lane (by walk_at "form") (by decide) (by decide) (by decide)) fun _ _ => evl_cons lane_mono (evx_lane (by walk_at "form") (by decide) (by decide) (by decide)) fun _ _ => evl_nil) (by decide)

end
end K17
namespace K17
open PySem PySem.Spec PyProof.Rows L2 Rs
local macro_rules | `(tactic| walk_at "om") => `(tactic| first | omega | (dsimp only; omega))
local macro_rules | `(tactic| walk_at "side") => `(tactic| first | omega | (dsimp only; omega) | decide | (unfold CMul; omega) | (unfold CDiv; omega) | (unfold CPow; omega) | exact wide_div (b := 64) (by omega) (by omega) (by decide) (by decide))
local macro_rules | `(tactic| walk_at "hp") => `(tactic| first | assumption | exact upd_same)
local macro_rules | `(tactic| walk_at "sq") => `(tactic| first | assumption | exact SqL.of (by assumption) | exact SqL.of upd_same)
local macro_rules | `(tactic| walk_at "st") => `(tactic| first
  | refine ⟨_, rfl, ?_⟩
  | (refine ⟨_, _, rfl, rfl, And.intro ?side ?_⟩; (case side => walk_at "side"))
  | refine ⟨_, _, rfl, rfl, ?_⟩
  | (refine' ⟨_, _, _, _, rfl, rfl, SqL.of ?hp, ?atx, ?_⟩; (case hp => walk_at "hp"); (case atx => exact rfl))
  | (refine' ⟨_, _, _, _, rfl, rfl, ?hp, ?atx, ?_⟩; (case hp => walk_at "hp"); (case atx => exact rfl))
  | (refine' ⟨_, _, rfl, Or.inl ?sq, ?_⟩; (case sq => walk_at "sq"))
  | refine Or.inl ⟨_, rfl, ?_⟩
  | refine Or.inr ⟨_, rfl, ?_⟩)
local macro_rules | `(tactic| walk_at "evd") => `(tactic| first
  | exact evd_int
  | exact evd_str
  | exact evd_non
  | exact evd_bl
  | exact evd_nil
  | (refine evd_cons ?_ (fun _ => ?_) <;> walk_at "evd")
  | (refine evd_tup ?_ (Nat.le_of_ble_eq_true rfl); walk_at "evd"))

section
variable {P : Program} {w : World} {K : PySem.W.Frag} {mg : Str → Option Value} {base : Heap}
theorem look1 {f : Str} {v : V} : List.lookup f [(f, v)] = some v := by
  unfold List.lookup
  rw [beq_self_eq_true]
/-- how rows are refused, or that they are played -/
def dueO : Option Nat → V
  | none => .str (Str.ofString "played")
  | some i => .int (i : Int)
def spRefd (K : PySem.W.Frag) (CP CB CL CF : Addr) : Sp := fun vs H Q _ => ∃ (S : Addr → Prop) (u v : V) (a : Addr) (ds : List BD) (d : PyData), vs = [u, v, .ref a] ∧ PlanE K CP CB CL CF H u ds ∧ (∀ x ∈ ds, BI x) ∧ Da S H v d ∧ Wide d ∧
  (dueD d = none → SqA K H a [] ∧ ∀ n m : Nat, ∀ rs, (∀ xs, seqD d = some xs → xs.map rowD = rs.map some) → RowsI n m rs → n ≤ 1000 ∧ m ≤ 1000 ∧ (turnsP ds n).length ≤ 10000) ∧
  ∀ H', Same H H' → Q (dueO (dueD d)) H'
def t_suite (K : PySem.W.Frag) (CI CR CF CP : Addr) : Addr → Value → Option Addr → TS := fun a cls d =>
  tAsg (tIf (tAnd (tB (tCB (rIsX K a cls d CI) (tCons (tVar 4) (tCons (tC (.ref CR)) tNil)))) (tNot (tB (tCB (rIsXT K a cls d CI) (tCons (tVar 4) (tCons (tTup (tCons (tC (.ref CF)) (tCons (tC (.ref CP)) tNil))) tNil)))))) (tXf a cls d CI "at" (tVar 4)) (tC (.str "other"))) (gName 3)
def rLen (K : PySem.W.Frag) : List V → Hp → VK → Prop := fun xs H Q => ∃ p ys, xs = [.ref p] ∧ (SqL K H p ys ∨ SqT K H p ys) ∧ Q (.int (ys.length : Int)) H
def t_body (K : PySem.W.Frag) (CP CB CL CF CS CY CI CR : Addr) : WX → TS := fun W =>
  tAsg (tIf (tTest (tOp rEq (tCB (rLen K) (tCons (tFld K (tCallS (spPlay K CP CB CL CF CS CY CI CR) (WE W) (tCons (tVar 0) (tCons (tVar 1) (tCons (tVar 2) tNil)))) "rows") tNil)) (tCB (rLen K) (tCons (tVar 1) tNil)))) (tC (.str "played")) (tC (.str "odd"))) (gName 3)
theorem ok_refd (T : Txt K mg) (hST : ∀ l : LD, LI l → KDct K w T.A_STEPS l.w (.int (stepP l))) (hCM : ∀ d : SD, KindOk d → KDct K w T.A_COMINGS d.k (.int (comeV d.k : Int))) : FnOk P w K mg base CX0 7 T.a__law_refused T.d__law_refused ["_law_made", "_law_value", "_law_slips"] (spRefd K T.c_Plan T.c_Block T.c_Lane T.c_Form) := by
  have G_play : FnOk P w K mg base (L2.CX P w) 6 T.a_play T.d_play ["plan", "rows", "slips"] (spPlay K T.c_Plan T.c_Block T.c_Lane T.c_Form T.c_Slip T.c_Played T.c_InvalidRows T.c_Refused) := ok_play T hST hCM
  refine T.F__law_refused.ok sc__law_refused (fun vs H Q E h => ?_) (fun cdv A outer s H vs Q E hr h => ?_)
  · obtain ⟨S, u, v, a, ds, d, rfl, _⟩ := h
    rfl
  · obtain ⟨S, u, v, a, ds, d, rfl, hu, bis, hv, wd, k0, k⟩ := h
    have nd := sc__law_refused.nd
    refine ⟨_, pss_cons (ps_set (i := 3) nd rfl (Or.inl rfl) pe_str)
      (pss_cons (ps_try_as (i := 4) (tb := t_body K T.c_Plan T.c_Block T.c_Lane T.c_Form T.c_Slip T.c_Played T.c_InvalidRows T.c_Refused) (ts := t_suite K T.c_InvalidRows T.c_RingError T.c_InvalidPlan T.c_InvalidSlip) (Wout := fun _ _ _ _ => False) rfl rfl nd rfl rfl ⟨rfl, by decide, Or.inl T.m_InvalidRows⟩ takes0
        (fun W pn xe tk _ => pss_one (ps_set (i := 3) nd rfl (Or.inl rfl) (by exact (pe_ifExp (pt_cmpR op_eq (pe_callB call_len_seq (by rfl) T.z_len (by decide +kernel) (pa_cons (pe_fld (pe_callS G_play (hr.mono (by first | decide | omega)) (by rfl) T.m_play T.k_play T.b_play (fun σ => passAt tk σ) (pa_cons (pv 0) (pa_cons (pv 1) (pa_cons (pv 2) pa_nil)))) rfl) pa_nil)) (pe_callB call_len_seq (by rfl) T.z_len (by decide +kernel) (pa_cons (pv 1) pa_nil)) (nomark _)) pe_str pe_str))))
        (fun a oe cls d pn hz hf => pss_one (ps_set (i := 3) nd rfl (Or.inl rfl) (by exact (pe_ifExp (PW.pt (pw_and (pt_val (pe_callB (call_isX T.X_InvalidRows hz hf) (by rfl) T.z_isinstance (by decide +kernel) (pa_cons (pv 4) (pa_cons (pe_glob rfl T.m_RingError (rel_ref _)) pa_nil))))
          (pw_and1 (pt_not (pt_val (pe_callB (call_isXT T.X_InvalidRows hz hf) (by rfl) T.z_isinstance (by decide +kernel) (pa_cons (pv 4) (pa_cons (pe_tup (pa_cons (pe_glob rfl T.m_InvalidPlan (rel_ref _)) (pa_cons (pe_glob rfl T.m_InvalidSlip (rel_ref _)) pa_nil))) pa_nil))))))))
          (pe_xf T.f_InvalidRows T.n_InvalidRows hz hf (pv 4)) pe_str)))))
      (pss_one (ps_ret (pv 3)))), ?_⟩
    refine ⟨_, rfl, _, rfl, _, rfl, S, u, v, a, ds, d, rfl, hu, bis, hv, wd, fun i ei H1 d' s1 hd => ?_, fun e0 => ?_⟩
    · rw [ei] at k
      have sd := s1.trans (same_new (o := .xd [("at", .int (i : Int))]) hd)
      refine ⟨true, T.e_InvalidRows, fun _ a ha => ?_, fun q => Bool.noConfusion q⟩
      refine ⟨_, rfl, _, _, true, d', _, rfl, .own _, rfl, rfl, upd_same, T.kit_InvalidRows_RingError, _, rfl, iteT ?_⟩
      refine ⟨_, rfl, szL (Nat.le_of_ble_eq_true rfl), fun tp ntp => ?_⟩
      have hd2 : ∀ o, upd (upd H1 d' (.xd [("at", .int (i : Int))])) tp o d' = some (.xd [("at", .int (i : Int))]) := fun o => by
        rw [upd_ne (ne_of_none upd_same ntp)]
        exact upd_same
      refine ⟨tp, _, _, false, d', _, rfl, upd_same, .cons (.own _) (.cons (.own _) .nil), rfl, rfl, hd2 _, kitAny_cons T.kit_InvalidRows_InvalidPlan (fun _ => kitAny_cons T.kit_InvalidRows_InvalidSlip (fun _ => kitAny_nil) (fun q => Bool.noConfusion q)) (fun q => Bool.noConfusion q), _, rfl, ?_⟩
      refine ifT rfl ?_
      refine ⟨_, rfl, rfl, rfl, d', _, .int i, rfl, hd2 _, look1, ?_⟩
      exact ⟨_, rfl, k _ (sd.trans (same_new ntp))⟩
    · obtain ⟨hsl, kb⟩ := k0 e0
      obtain ⟨xs, rs, m, es, mp, ri, _⟩ := due_rows e0
      have mp2 : ∀ xs, seqD d = some xs → xs.map rowD = rs.map some := fun ys e => by
        rw [es] at e
        cases e
        exact mp
      obtain ⟨n1, m1, tl⟩ := kb xs.length m rs mp2 ri
      refine ⟨[], [], xs.length, m, rs, hsl, .nil, by decide, fun x hx => absurd hx (by simp), n1, m1, by rw [es]; simp, mp2, ri, tl, fun i ei => (by cases ei), fun cs ecs H1 p s1 hp => ?_⟩
      obtain ⟨x, dx, a1, b1, c1, us, rfl, hx, ha1, hus, _⟩ := hp
      obtain ⟨av, vs, rfl, hav, hall⟩ := hv.seq es
      have lu := hus.length
      have ok := (after_ok (cs := cs) (zs := numP (turnsP ds (xs.length : Int))) ri).many
      have lv := hall.length
      rw [e0] at k
      refine ⟨x, T.c_Played, dx, _, _, rfl, hx, T.C_Played, T.n_Played_rows, rfl, a1, us, rfl, .inr (SqT.of ha1), _, rfl, av, vs, rfl, seq_any (hav.imp (s1 _ _) (s1 _ _)), rfl, _, rfl, ?_⟩
      refine ifT (decide_eq_true (by rw [lu, ok, lv])) ?_
      exact ⟨_, rfl, k _ s1⟩

end
end K17
namespace K17
open PySem PySem.Spec PyProof.Rows L2 Rs
local macro_rules | `(tactic| walk_at "om") => `(tactic| first | omega | (dsimp only; omega))
local macro_rules | `(tactic| walk_at "side") => `(tactic| first | omega | (dsimp only; omega) | decide | (unfold CMul; omega) | (unfold CDiv; omega) | (unfold CPow; omega) | exact wide_div (b := 64) (by omega) (by omega) (by decide) (by decide))
local macro_rules | `(tactic| walk_at "hp") => `(tactic| first | assumption | exact upd_same)
local macro_rules | `(tactic| walk_at "sq") => `(tactic| first | assumption | exact SqL.of (by assumption) | exact SqL.of upd_same)
local macro_rules | `(tactic| walk_at "st") => `(tactic| first
  | refine ⟨_, rfl, ?_⟩
  | (refine ⟨_, _, rfl, rfl, And.intro ?side ?_⟩; (case side => walk_at "side"))
  | refine ⟨_, _, rfl, rfl, ?_⟩
  | (refine' ⟨_, _, _, _, rfl, rfl, SqL.of ?hp, ?atx, ?_⟩; (case hp => walk_at "hp"); (case atx => exact rfl))
  | (refine' ⟨_, _, _, _, rfl, rfl, ?hp, ?atx, ?_⟩; (case hp => walk_at "hp"); (case atx => exact rfl))
  | (refine' ⟨_, _, rfl, Or.inl ?sq, ?_⟩; (case sq => walk_at "sq"))
  | refine Or.inl ⟨_, rfl, ?_⟩
  | refine Or.inr ⟨_, rfl, ?_⟩)
local macro_rules | `(tactic| walk_at "evd") => `(tactic| first
  | exact evd_int
  | exact evd_str
  | exact evd_non
  | exact evd_bl
  | exact evd_nil
  | (refine evd_cons ?_ (fun _ => ?_) <;> walk_at "evd")
  | (refine evd_tup ?_ (Nat.le_of_ble_eq_true rfl); walk_at "evd"))

section
variable {P : Program} {w : World} {K : PySem.W.Frag} {mg : Str → Option Value} {base : Heap}
/-! the law's own due -/
def spDueL (K : PySem.W.Frag) : Sp := fun vs H Q _ => ∃ (S : Addr → Prop) (v : V) (d : PyData), vs = [v] ∧ Da S H v d ∧ Wide d ∧ ∀ H', Same H H' → Q (dueO (dueD d)) H'
theorem kit_bool {S : Addr → Prop} {H : Hp} {v : V} {d : PyData} (h : Da S H v d) : ∃ t, TyX K H v (.type t) ∧ kitB t "int" = some (isInt v || isBl v) ∧ kitB t "bool" = some (isBl v) := by
  obtain ⟨b, hb⟩ := h.sh
  exact hb.ty
theorem ok_due (T : Txt K mg) : FnOk P w K mg base CX0 1 T.a__law_due T.d__law_due ["_law_value"] (spDueL K) := by
  refine T.F__law_due.ok sc__law_due (fun vs H Q E h => ?_) (fun cdv A outer s H vs Q E hr h => ?_)
  · obtain ⟨S, v, d, rfl, _⟩ := h
    rfl
  · obtain ⟨S, v, d, rfl, hv, wd, k⟩ := h
    have nd := sc__law_due.nd
    refine ⟨_, (pss_cons (ps_if (PW.pt (pw_or (pt_not (pt_val (pe_callB call_isiT (by rfl) T.z_isinstance (by decide +kernel) (pa_cons (pv 0) (pa_cons (pe_tup (pa_cons (pe_bltn (v := .ty "list") (u := .type "list") (by rfl) T.z_list (by decide +kernel) (by exact rfl)) (pa_cons (pe_bltn (v := .ty "tuple") (u := .type "tuple") (by rfl) T.z_tuple (by decide +kernel) (by exact rfl)) pa_nil))) pa_nil))))) (pw_or1 (pt_cmpR op_eq (pe_callB call_len_seq (by rfl) T.z_len (by decide +kernel) (pa_cons (pv 0) pa_nil)) pe_int (nomark _))))) (pss_one (ps_ret pe_int)) pss_nil)
    (pss_cons (ps_for PassesOwn.never rfl (pi_enumA (by rfl) T.z_enumerate (pa_cons (pv 0) pa_nil)) (pg_tup rfl (pgs_cons (pg_name (i := 1) nd rfl (Or.inl rfl)) (pgs_cons (pg_name (i := 2) nd rfl (Or.inl rfl)) pgs_nil)))
    (pss_cons (ps_if (PW.pt (pw_or (pt_not (pt_val (pe_callB call_isiT (by rfl) T.z_isinstance (by decide +kernel) (pa_cons (pv 2) (pa_cons (pe_tup (pa_cons (pe_bltn (v := .ty "list") (u := .type "list") (by rfl) T.z_list (by decide +kernel) (by exact rfl)) (pa_cons (pe_bltn (v := .ty "tuple") (u := .type "tuple") (by rfl) T.z_tuple (by decide +kernel) (by exact rfl)) pa_nil))) pa_nil))))) (pw_or1 (PW.pt (pw_and (pt_cmpR op_gt (pv 1) pe_int (nomark _)) (pw_and1 (pt_cmpR op_ne (pe_callB call_len_seq (by rfl) T.z_len (by decide +kernel) (pa_cons (pv 2) pa_nil)) (pe_callB call_len_seq (by rfl) T.z_len (by decide +kernel) (pa_cons (pe_ix ix_seq (pv 0) pe_int (fun _ _ => rfl)) pa_nil)) (nomark _)))))))) (pss_one (ps_ret (pv 1))) pss_nil)
    (pss_one (ps_if (pt_cmpR (op_neNil (un1 hr)) (pe_lc (own := [("_law_one", 3)]) (g := (gName 3)) (by rfl) nd (pi_seqA (pv 2)) (blkOk_by (N := ["_law_value", "_law_at", "_law_row", "_law_one"]) (sc := defScope s__law_due) (own := [("_law_one", 3)]) (by decide +kernel)) (fun _ _ _ _ _ => by exact (pg_name (i := 3) nd rfl (Or.inl rfl))) (fun _ _ _ _ _ => by exact pts_one (PW.pt (pw_or (pt_val (pe_callB (call_isiC (K := K) rfl) (by rfl) T.z_isinstance (by decide +kernel) (pa_cons (pv 3) (pa_cons (pe_bltn (v := .ty "bool") (u := .type "bool") (by rfl) T.z_bool (by decide +kernel) (by exact rfl)) pa_nil)))) (pw_or1 (pt_not (pt_val (pe_callB (call_isiC (K := K) rfl) (by rfl) T.z_isinstance (by decide +kernel) (pa_cons (pv 3) (pa_cons (pe_bltn (v := .ty "int") (u := .type "int") (by rfl) T.z_int (by decide +kernel) (by exact rfl)) pa_nil))))))))) (fun _ _ _ _ _ => by exact (pv 3))) (pe_lst pa_nil) (nomark _)) (pss_one (ps_ret (pv 1))) pss_nil))))
    (pss_one (ps_ret pe_str)))), ?_⟩
    obtain ⟨t, ty, kt⟩ := hv.ty (K := K)
    refine seqif_go ?_
    refine ⟨_, rfl, szL (Nat.le_of_ble_eq_true rfl), fun p np => ?_⟩
    have s1 := same_new (o := .tup [.ty "list", .ty "tuple"]) np
    have hp1 : upd H p (.tup [.ty "list", .ty "tuple"]) p = some (.tup [.ty "list", .ty "tuple"]) := upd_same
    generalize upd H p (.tup [.ty "list", .ty "tuple"]) = H1 at s1 hp1 ⊢
    refine ⟨v, p, _, _, _, _, rfl, hp1, .cons (.ty _) (.cons (.ty _) .nil), tyx_same s1 ty, kt, _, rfl, ?_⟩
    cases es : seqD d with
    | none =>
      refine ifT rfl (ifT rfl ?_)
      rw [show dueD d = some 0 from by unfold dueD; rw [es]] at k
      exact ret_go (k _ s1)
    | some ds =>
    obtain ⟨a, xs, rfl, ha, hall⟩ := hv.seq es
    have lx := hall.length
    obtain ⟨l0, l1⟩ := wd ds es
    have hq := seq_any (K := K) (ha.imp (s1 _ _) (s1 _ _))
    refine ifF rfl ?_
    refine ⟨_, rfl, a, xs, rfl, hq, rfl, _, rfl, ?_⟩
    cases ds with
    | nil =>
      rw [List.length_nil] at lx
      rw [lx]
      refine ifT rfl ?_
      rw [show dueD d = some 0 from by unfold dueD; rw [es]] at k
      exact ret_go (k _ s1)
    | cons d0 ds =>
    rw [List.length_cons] at lx
    refine ifF (decide_eq_false (by rw [lx]; intro z; injection z with z; omega)) ?_
    have eD : dueD d = dueFrom (lenD d0) 0 (d0 :: ds) := by unfold dueD; rw [es]
    rw [eD] at k
    obtain ⟨v0, ev0⟩ : ∃ v0, xs[0]? = some v0 := ⟨_, List.getElem?_eq_getElem (by omega)⟩
    obtain ⟨d0', ed0, hd0⟩ := hall.get ev0
    cases ed0
    dsimp only [tNext]
    refine ⟨_, rfl, a, rfl, ?_⟩
    rcases id ha with ha2 | ha2
    · refine .inl ⟨xs, SqL.of (s1 _ _ ha2), for_it (walk_enum (xs := xs)) (fun i σ Hc => ∃ y1 y2, σ = [some (.ref a), y1, y2, none] ∧ dueFrom (lenD d0) 0 (d0 :: ds) = dueFrom (lenD d0) i ((d0 :: ds).drop i) ∧ (0 < i → (rowD d0).isSome = true) ∧ Same H Hc)
        ⟨none, none, rfl, rfl, fun z => absurd z (Nat.lt_irrefl _), s1⟩ (fun i σ Hc _ hR => by obtain ⟨_, _, _, _, _, s⟩ := hR; exact SqL.of (s _ _ ha2)) (fun i v σ Hc H9 hi hP hy => ?_) (fun σ Hc hP => ?_)⟩
      · obtain ⟨y1, y2, rfl, eS, pre, sc⟩ := hP
        obtain ⟨T', v1, v2, rfl, nT, rfl, h1, h2⟩ := hy
        cases h1
        obtain ⟨d1, ed, hd⟩ := hall.get h2
        have s2 := same_new (o := .tup [.int ((i : Nat) : Int), v2]) nT
        have hT : upd Hc T' (.tup [.int ((i : Nat) : Int), v2]) T' = some (.tup [.int ((i : Nat) : Int), v2]) := upd_same
        generalize upd Hc T' (.tup [.int ((i : Nat) : Int), v2]) = H2 at s2 hT ⊢
        have sA := sc.trans s2
        refine ⟨T', _, rfl, SqT.of hT, rfl, ⟨_, _, rfl, _, _, rfl, rfl, ?_⟩⟩
        dsimp only [gName]
        have edrop : (d0 :: ds).drop i = d1 :: (d0 :: ds).drop (i + 1) := by
          obtain ⟨hi2, e⟩ := List.getElem?_eq_some_iff.mp ed
          rw [List.drop_eq_getElem_cons hi2, e]
        have stepE : dueFrom (lenD d0) 0 (d0 :: ds) = if (rowD d1).isSome && decide (lenD d1 = lenD d0) then dueFrom (lenD d0) (i + 1) ((d0 :: ds).drop (i + 1)) else some i := by
          rw [eS, edrop]
          rfl
        obtain ⟨t1, ty1, kt1⟩ := hd.ty (K := K)
        refine seqif_go ?_
        refine ⟨_, rfl, szL (Nat.le_of_ble_eq_true rfl), fun p3 np3 => ?_⟩
        have s3 := same_new (o := .tup [.ty "list", .ty "tuple"]) np3
        have hp3 : upd H2 p3 (.tup [.ty "list", .ty "tuple"]) p3 = some (.tup [.ty "list", .ty "tuple"]) := upd_same
        generalize upd H2 p3 (.tup [.ty "list", .ty "tuple"]) = H3 at s3 hp3 ⊢
        have sB := sA.trans s3
        refine ⟨v2, p3, _, _, _, _, rfl, hp3, .cons (.ty _) (.cons (.ty _) .nil), tyx_same sB ty1, kt1, _, rfl, ?_⟩
        cases es1 : seqD d1 with
        | none =>
          have er : (rowD d1).isSome = false := by unfold rowD; rw [es1]; rfl
          refine ifT rfl (ifT rfl ?_)
          rw [stepE, er] at k
          exact ⟨_, rfl, k _ sB⟩
        | some ds1 =>
        refine ifF rfl ?_
        obtain ⟨a1, xs1, rfl, ha1, hall1⟩ := hd.seq es1
        have n1 : lenD d1 = xs1.length := by rw [hall1.length]; unfold lenD; rw [es1]; rfl
        have b1 := l1 d1 (List.mem_of_getElem? ed) ds1 es1
        have lx1 := hall1.length
        have e0 : (rowD d1).isSome = ds1.all isIntD := by
          unfold rowD
          rw [es1]
          exact intsD_all
        refine ⟨_, rfl, _, _, rfl, rfl, _, rfl, ?_⟩
        by_cases i0 : 0 < i
        · refine ifT (decide_eq_true (by omega)) ?_
          have row0 := pre i0
          obtain ⟨ds0, es0⟩ : ∃ ds0, seqD d0 = some ds0 := by
            cases z : seqD d0 with
            | none => unfold rowD at row0; rw [z] at row0; cases row0
            | some ds0 => exact ⟨_, rfl⟩
          obtain ⟨a0, xs0, rfl, ha0, hall0⟩ := hd0.seq es0
          have n0 : lenD d0 = xs0.length := by rw [hall0.length]; unfold lenD; rw [es0]; rfl
          refine ⟨_, rfl, a1, xs1, rfl, seq_any (ha1.imp (sB _ _) (sB _ _)), _, rfl, ix_any (seq_any (ha.imp (sB _ _) (sB _ _))) (atI_nat (j := 0) ev0) ⟨a0, xs0, rfl, seq_any (ha0.imp (sB _ _) (sB _ _)), rfl, _, rfl, ?_⟩⟩
          have dn : decide (V.int (xs1.length : Int) = V.int (xs0.length : Int)) = decide (lenD d1 = lenD d0) := decide_eq_decide.mpr ⟨fun z => by injection z with z; omega, fun z => by rw [← n1, ← n0, z]⟩
          rw [dn]
          cases el : decide (lenD d1 = lenD d0) with
          | false =>
            refine ifT rfl ?_
            rw [stepE, el, Bool.and_false] at k
            exact ⟨_, rfl, k _ sB⟩
          | true =>
            refine ifF rfl ?_
            rw [el, Bool.and_true, e0] at stepE
            dsimp only [tNext]
            refine ifs_go ?_
            refine ⟨_, rfl, a1, rfl, ?_⟩
            rcases id ha1 with e1 | e1
            · refine .inl ⟨xs1, SqL.of (sB _ _ e1), fun D nD => ?_⟩
              refine lc_list (xs := xs1) (fun j Hd => ∃ acc, Hd D = some (.lst acc) ∧ acc.length ≤ j ∧ acc.isEmpty = (ds1.take j).all isIntD ∧ Same H3 Hd) ⟨[], upd_same, Nat.zero_le _, rfl, same_new nD⟩ (fun j Hd _ hP => by obtain ⟨_, _, _, _, s⟩ := hP; exact SqL.of (s _ _ (sB _ _ e1))) (fun j y Hd hy hP => ?_) (fun Hd hP => ?_)
              · obtain ⟨acc, hD, la, ea, sd⟩ := hP
                obtain ⟨dy, edy, hdy⟩ := hall1.get hy
                have sC := sB.trans sd
                have hdy' := hdy.same sC
                obtain ⟨ty2, tyy, ki, kb⟩ := kit_bool (K := K) hdy'
                have ei := hdy'.isInt
                have lj := (List.getElem?_eq_some_iff.mp hy).1
                have tk : (ds1.take (j + 1)).all isIntD = ((ds1.take j).all isIntD && isIntD dy) := by
                  rw [take_snoc edy, List.all_append]
                  simp
                have bad : isIntD dy = false → ∃ acc, Hd D = some (.lst acc) ∧ acc.length < sizeLine ∧ ∃ acc2, upd Hd D (.lst (acc ++ [y])) D = some (.lst acc2) ∧ acc2.length ≤ j + 1 ∧ acc2.isEmpty = (ds1.take (j + 1)).all isIntD ∧ Same H3 (upd Hd D (.lst (acc ++ [y]))) := fun e =>
                  ⟨acc, hD, szl' (by omega), acc ++ [y], upd_same, by rw [List.length_append, List.length_singleton]; omega, by rw [tk, e, Bool.and_false]; simp, same_lst sd nD⟩
                refine ⟨rfl, _, rfl, _, _, _, _, _, rfl, .ty _, tyy, kit_ty kb, _, rfl, ?_⟩
                cases eb : isBl y with
                | true =>
                  have z : isIntD dy = false := by
                    rw [← ei]
                    cases y <;> first | rfl | cases eb
                  refine ifT rfl (ifT rfl ?_)
                  exact ⟨_, rfl, bad z⟩
                | false =>
                  refine ifF rfl ?_
                  rw [eb, Bool.or_false] at ki
                  refine ⟨_, rfl, _, _, _, _, _, rfl, .ty _, tyy, kit_ty ki, _, rfl, ?_⟩
                  rw [ei]
                  cases ez : isIntD dy with
                  | false =>
                    refine ifT rfl ?_
                    exact ⟨_, rfl, bad ez⟩
                  | true =>
                    refine ifF rfl ?_
                    exact ⟨acc, hD, by omega, by rw [tk, ez, Bool.and_true]; exact ea, sd⟩
              · obtain ⟨acc, hD, la, ea, sd⟩ := hP
                rw [lx1, List.take_length] at ea
                have sC := sB.trans sd
                refine ⟨szL (Nat.le_of_ble_eq_true rfl), fun l nl => ?_⟩
                have s5 := same_new (o := .lst []) nl
                refine ⟨D, l, acc, rfl, rfl, SqL.of (s5 _ _ hD), SqL.of upd_same, _, rfl, ?_⟩
                rw [ea]
                cases ez : ds1.all isIntD with
                | false =>
                  refine ifT rfl ?_
                  rw [stepE, ez] at k
                  exact ⟨_, rfl, k _ (sC.trans s5)⟩
                | true =>
                  refine ifF rfl ?_
                  have rz : (rowD d1).isSome = true := by rw [e0, ez]
                  refine ⟨_, _, rfl, ?_, ?_, sC.trans s5⟩
                  · rw [stepE, ez]
                    rfl
                  · intro _
                    by_cases z : 0 < i
                    · exact pre z
                    · obtain rfl : i = 0 := by omega
                      cases ed
                      exact rz
            · refine .inr ⟨xs1, SqT.of (sB _ _ e1), fun D nD => ?_⟩
              refine lc_tup (xs := xs1) (fun j Hd => ∃ acc, Hd D = some (.lst acc) ∧ acc.length ≤ j ∧ acc.isEmpty = (ds1.take j).all isIntD ∧ Same H3 Hd) ⟨[], upd_same, Nat.zero_le _, rfl, same_new nD⟩ (fun j Hd _ hP => by obtain ⟨_, _, _, _, s⟩ := hP; exact SqT.of (s _ _ (sB _ _ e1))) (fun j y Hd hy hP => ?_) (fun Hd hP => ?_)
              · obtain ⟨acc, hD, la, ea, sd⟩ := hP
                obtain ⟨dy, edy, hdy⟩ := hall1.get hy
                have sC := sB.trans sd
                have hdy' := hdy.same sC
                obtain ⟨ty2, tyy, ki, kb⟩ := kit_bool (K := K) hdy'
                have ei := hdy'.isInt
                have lj := (List.getElem?_eq_some_iff.mp hy).1
                have tk : (ds1.take (j + 1)).all isIntD = ((ds1.take j).all isIntD && isIntD dy) := by
                  rw [take_snoc edy, List.all_append]
                  simp
                have bad : isIntD dy = false → ∃ acc, Hd D = some (.lst acc) ∧ acc.length < sizeLine ∧ ∃ acc2, upd Hd D (.lst (acc ++ [y])) D = some (.lst acc2) ∧ acc2.length ≤ j + 1 ∧ acc2.isEmpty = (ds1.take (j + 1)).all isIntD ∧ Same H3 (upd Hd D (.lst (acc ++ [y]))) := fun e =>
                  ⟨acc, hD, szl' (by omega), acc ++ [y], upd_same, by rw [List.length_append, List.length_singleton]; omega, by rw [tk, e, Bool.and_false]; simp, same_lst sd nD⟩
                refine ⟨rfl, _, rfl, _, _, _, _, _, rfl, .ty _, tyy, kit_ty kb, _, rfl, ?_⟩
                cases eb : isBl y with
                | true =>
                  have z : isIntD dy = false := by
                    rw [← ei]
                    cases y <;> first | rfl | cases eb
                  refine ifT rfl (ifT rfl ?_)
                  exact ⟨_, rfl, bad z⟩
                | false =>
                  refine ifF rfl ?_
                  rw [eb, Bool.or_false] at ki
                  refine ⟨_, rfl, _, _, _, _, _, rfl, .ty _, tyy, kit_ty ki, _, rfl, ?_⟩
                  rw [ei]
                  cases ez : isIntD dy with
                  | false =>
                    refine ifT rfl ?_
                    exact ⟨_, rfl, bad ez⟩
                  | true =>
                    refine ifF rfl ?_
                    exact ⟨acc, hD, by omega, by rw [tk, ez, Bool.and_true]; exact ea, sd⟩
              · obtain ⟨acc, hD, la, ea, sd⟩ := hP
                rw [lx1, List.take_length] at ea
                have sC := sB.trans sd
                refine ⟨szL (Nat.le_of_ble_eq_true rfl), fun l nl => ?_⟩
                have s5 := same_new (o := .lst []) nl
                refine ⟨D, l, acc, rfl, rfl, SqL.of (s5 _ _ hD), SqL.of upd_same, _, rfl, ?_⟩
                rw [ea]
                cases ez : ds1.all isIntD with
                | false =>
                  refine ifT rfl ?_
                  rw [stepE, ez] at k
                  exact ⟨_, rfl, k _ (sC.trans s5)⟩
                | true =>
                  refine ifF rfl ?_
                  have rz : (rowD d1).isSome = true := by rw [e0, ez]
                  refine ⟨_, _, rfl, ?_, ?_, sC.trans s5⟩
                  · rw [stepE, ez]
                    rfl
                  · intro _
                    by_cases z : 0 < i
                    · exact pre z
                    · obtain rfl : i = 0 := by omega
                      cases ed
                      exact rz
        · refine ifF (decide_eq_false (by omega)) ?_
          have el : decide (lenD d1 = lenD d0) = true := by
            have z : i = 0 := by omega
            rw [z] at ed
            cases ed
            exact decide_eq_true rfl
          refine ifF rfl ?_
          rw [el, Bool.and_true, e0] at stepE
          dsimp only [tNext]
          refine ifs_go ?_
          refine ⟨_, rfl, a1, rfl, ?_⟩
          rcases id ha1 with e1 | e1
          · refine .inl ⟨xs1, SqL.of (sB _ _ e1), fun D nD => ?_⟩
            refine lc_list (xs := xs1) (fun j Hd => ∃ acc, Hd D = some (.lst acc) ∧ acc.length ≤ j ∧ acc.isEmpty = (ds1.take j).all isIntD ∧ Same H3 Hd) ⟨[], upd_same, Nat.zero_le _, rfl, same_new nD⟩ (fun j Hd _ hP => by obtain ⟨_, _, _, _, s⟩ := hP; exact SqL.of (s _ _ (sB _ _ e1))) (fun j y Hd hy hP => ?_) (fun Hd hP => ?_)
            · obtain ⟨acc, hD, la, ea, sd⟩ := hP
              obtain ⟨dy, edy, hdy⟩ := hall1.get hy
              have sC := sB.trans sd
              have hdy' := hdy.same sC
              obtain ⟨ty2, tyy, ki, kb⟩ := kit_bool (K := K) hdy'
              have ei := hdy'.isInt
              have lj := (List.getElem?_eq_some_iff.mp hy).1
              have tk : (ds1.take (j + 1)).all isIntD = ((ds1.take j).all isIntD && isIntD dy) := by
                rw [take_snoc edy, List.all_append]
                simp
              have bad : isIntD dy = false → ∃ acc, Hd D = some (.lst acc) ∧ acc.length < sizeLine ∧ ∃ acc2, upd Hd D (.lst (acc ++ [y])) D = some (.lst acc2) ∧ acc2.length ≤ j + 1 ∧ acc2.isEmpty = (ds1.take (j + 1)).all isIntD ∧ Same H3 (upd Hd D (.lst (acc ++ [y]))) := fun e =>
                ⟨acc, hD, szl' (by omega), acc ++ [y], upd_same, by rw [List.length_append, List.length_singleton]; omega, by rw [tk, e, Bool.and_false]; simp, same_lst sd nD⟩
              refine ⟨rfl, _, rfl, _, _, _, _, _, rfl, .ty _, tyy, kit_ty kb, _, rfl, ?_⟩
              cases eb : isBl y with
              | true =>
                have z : isIntD dy = false := by
                  rw [← ei]
                  cases y <;> first | rfl | cases eb
                refine ifT rfl (ifT rfl ?_)
                exact ⟨_, rfl, bad z⟩
              | false =>
                refine ifF rfl ?_
                rw [eb, Bool.or_false] at ki
                refine ⟨_, rfl, _, _, _, _, _, rfl, .ty _, tyy, kit_ty ki, _, rfl, ?_⟩
                rw [ei]
                cases ez : isIntD dy with
                | false =>
                  refine ifT rfl ?_
                  exact ⟨_, rfl, bad ez⟩
                | true =>
                  refine ifF rfl ?_
                  exact ⟨acc, hD, by omega, by rw [tk, ez, Bool.and_true]; exact ea, sd⟩
            · obtain ⟨acc, hD, la, ea, sd⟩ := hP
              rw [lx1, List.take_length] at ea
              have sC := sB.trans sd
              refine ⟨szL (Nat.le_of_ble_eq_true rfl), fun l nl => ?_⟩
              have s5 := same_new (o := .lst []) nl
              refine ⟨D, l, acc, rfl, rfl, SqL.of (s5 _ _ hD), SqL.of upd_same, _, rfl, ?_⟩
              rw [ea]
              cases ez : ds1.all isIntD with
              | false =>
                refine ifT rfl ?_
                rw [stepE, ez] at k
                exact ⟨_, rfl, k _ (sC.trans s5)⟩
              | true =>
                refine ifF rfl ?_
                have rz : (rowD d1).isSome = true := by rw [e0, ez]
                refine ⟨_, _, rfl, ?_, ?_, sC.trans s5⟩
                · rw [stepE, ez]
                  rfl
                · intro _
                  by_cases z : 0 < i
                  · exact pre z
                  · obtain rfl : i = 0 := by omega
                    cases ed
                    exact rz
          · refine .inr ⟨xs1, SqT.of (sB _ _ e1), fun D nD => ?_⟩
            refine lc_tup (xs := xs1) (fun j Hd => ∃ acc, Hd D = some (.lst acc) ∧ acc.length ≤ j ∧ acc.isEmpty = (ds1.take j).all isIntD ∧ Same H3 Hd) ⟨[], upd_same, Nat.zero_le _, rfl, same_new nD⟩ (fun j Hd _ hP => by obtain ⟨_, _, _, _, s⟩ := hP; exact SqT.of (s _ _ (sB _ _ e1))) (fun j y Hd hy hP => ?_) (fun Hd hP => ?_)
            · obtain ⟨acc, hD, la, ea, sd⟩ := hP
              obtain ⟨dy, edy, hdy⟩ := hall1.get hy
              have sC := sB.trans sd
              have hdy' := hdy.same sC
              obtain ⟨ty2, tyy, ki, kb⟩ := kit_bool (K := K) hdy'
              have ei := hdy'.isInt
              have lj := (List.getElem?_eq_some_iff.mp hy).1
              have tk : (ds1.take (j + 1)).all isIntD = ((ds1.take j).all isIntD && isIntD dy) := by
                rw [take_snoc edy, List.all_append]
                simp
              have bad : isIntD dy = false → ∃ acc, Hd D = some (.lst acc) ∧ acc.length < sizeLine ∧ ∃ acc2, upd Hd D (.lst (acc ++ [y])) D = some (.lst acc2) ∧ acc2.length ≤ j + 1 ∧ acc2.isEmpty = (ds1.take (j + 1)).all isIntD ∧ Same H3 (upd Hd D (.lst (acc ++ [y]))) := fun e =>
                ⟨acc, hD, szl' (by omega), acc ++ [y], upd_same, by rw [List.length_append, List.length_singleton]; omega, by rw [tk, e, Bool.and_false]; simp, same_lst sd nD⟩
              refine ⟨rfl, _, rfl, _, _, _, _, _, rfl, .ty _, tyy, kit_ty kb, _, rfl, ?_⟩
              cases eb : isBl y with
              | true =>
                have z : isIntD dy = false := by
                  rw [← ei]
                  cases y <;> first | rfl | cases eb
                refine ifT rfl (ifT rfl ?_)
                exact ⟨_, rfl, bad z⟩
              | false =>
                refine ifF rfl ?_
                rw [eb, Bool.or_false] at ki
                refine ⟨_, rfl, _, _, _, _, _, rfl, .ty _, tyy, kit_ty ki, _, rfl, ?_⟩
                rw [ei]
                cases ez : isIntD dy with
                | false =>
                  refine ifT rfl ?_
                  exact ⟨_, rfl, bad ez⟩
                | true =>
                  refine ifF rfl ?_
                  exact ⟨acc, hD, by omega, by rw [tk, ez, Bool.and_true]; exact ea, sd⟩
            · obtain ⟨acc, hD, la, ea, sd⟩ := hP
              rw [lx1, List.take_length] at ea
              have sC := sB.trans sd
              refine ⟨szL (Nat.le_of_ble_eq_true rfl), fun l nl => ?_⟩
              have s5 := same_new (o := .lst []) nl
              refine ⟨D, l, acc, rfl, rfl, SqL.of (s5 _ _ hD), SqL.of upd_same, _, rfl, ?_⟩
              rw [ea]
              cases ez : ds1.all isIntD with
              | false =>
                refine ifT rfl ?_
                rw [stepE, ez] at k
                exact ⟨_, rfl, k _ (sC.trans s5)⟩
              | true =>
                refine ifF rfl ?_
                have rz : (rowD d1).isSome = true := by rw [e0, ez]
                refine ⟨_, _, rfl, ?_, ?_, sC.trans s5⟩
                · rw [stepE, ez]
                  rfl
                · intro _
                  by_cases z : 0 < i
                  · exact pre z
                  · obtain rfl : i = 0 := by omega
                    cases ed
                    exact rz
      · obtain ⟨y1, y2, rfl, eS, pre, sc⟩ := hP
        rw [List.drop_eq_nil_of_le (by rw [List.length_cons]; omega)] at eS
        rw [eS] at k
        dsimp only
        refine ret_go ?_
        exact k _ sc
    · refine .inr ⟨xs, SqT.of (s1 _ _ ha2), for_it (Rs.walk_enumT (xs := xs)) (fun i σ Hc => ∃ y1 y2, σ = [some (.ref a), y1, y2, none] ∧ dueFrom (lenD d0) 0 (d0 :: ds) = dueFrom (lenD d0) i ((d0 :: ds).drop i) ∧ (0 < i → (rowD d0).isSome = true) ∧ Same H Hc)
        ⟨none, none, rfl, rfl, fun z => absurd z (Nat.lt_irrefl _), s1⟩ (fun i σ Hc _ hR => by obtain ⟨_, _, _, _, _, s⟩ := hR; exact SqT.of (s _ _ ha2)) (fun i v σ Hc H9 hi hP hy => ?_) (fun σ Hc hP => ?_)⟩
      · obtain ⟨y1, y2, rfl, eS, pre, sc⟩ := hP
        obtain ⟨T', v1, v2, rfl, nT, rfl, h1, h2⟩ := hy
        cases h1
        obtain ⟨d1, ed, hd⟩ := hall.get h2
        have s2 := same_new (o := .tup [.int ((i : Nat) : Int), v2]) nT
        have hT : upd Hc T' (.tup [.int ((i : Nat) : Int), v2]) T' = some (.tup [.int ((i : Nat) : Int), v2]) := upd_same
        generalize upd Hc T' (.tup [.int ((i : Nat) : Int), v2]) = H2 at s2 hT ⊢
        have sA := sc.trans s2
        refine ⟨T', _, rfl, SqT.of hT, rfl, ⟨_, _, rfl, _, _, rfl, rfl, ?_⟩⟩
        dsimp only [gName]
        have edrop : (d0 :: ds).drop i = d1 :: (d0 :: ds).drop (i + 1) := by
          obtain ⟨hi2, e⟩ := List.getElem?_eq_some_iff.mp ed
          rw [List.drop_eq_getElem_cons hi2, e]
        have stepE : dueFrom (lenD d0) 0 (d0 :: ds) = if (rowD d1).isSome && decide (lenD d1 = lenD d0) then dueFrom (lenD d0) (i + 1) ((d0 :: ds).drop (i + 1)) else some i := by
          rw [eS, edrop]
          rfl
        obtain ⟨t1, ty1, kt1⟩ := hd.ty (K := K)
        refine seqif_go ?_
        refine ⟨_, rfl, szL (Nat.le_of_ble_eq_true rfl), fun p3 np3 => ?_⟩
        have s3 := same_new (o := .tup [.ty "list", .ty "tuple"]) np3
        have hp3 : upd H2 p3 (.tup [.ty "list", .ty "tuple"]) p3 = some (.tup [.ty "list", .ty "tuple"]) := upd_same
        generalize upd H2 p3 (.tup [.ty "list", .ty "tuple"]) = H3 at s3 hp3 ⊢
        have sB := sA.trans s3
        refine ⟨v2, p3, _, _, _, _, rfl, hp3, .cons (.ty _) (.cons (.ty _) .nil), tyx_same sB ty1, kt1, _, rfl, ?_⟩
        cases es1 : seqD d1 with
        | none =>
          have er : (rowD d1).isSome = false := by unfold rowD; rw [es1]; rfl
          refine ifT rfl (ifT rfl ?_)
          rw [stepE, er] at k
          exact ⟨_, rfl, k _ sB⟩
        | some ds1 =>
        refine ifF rfl ?_
        obtain ⟨a1, xs1, rfl, ha1, hall1⟩ := hd.seq es1
        have n1 : lenD d1 = xs1.length := by rw [hall1.length]; unfold lenD; rw [es1]; rfl
        have b1 := l1 d1 (List.mem_of_getElem? ed) ds1 es1
        have lx1 := hall1.length
        have e0 : (rowD d1).isSome = ds1.all isIntD := by
          unfold rowD
          rw [es1]
          exact intsD_all
        refine ⟨_, rfl, _, _, rfl, rfl, _, rfl, ?_⟩
        by_cases i0 : 0 < i
        · refine ifT (decide_eq_true (by omega)) ?_
          have row0 := pre i0
          obtain ⟨ds0, es0⟩ : ∃ ds0, seqD d0 = some ds0 := by
            cases z : seqD d0 with
            | none => unfold rowD at row0; rw [z] at row0; cases row0
            | some ds0 => exact ⟨_, rfl⟩
          obtain ⟨a0, xs0, rfl, ha0, hall0⟩ := hd0.seq es0
          have n0 : lenD d0 = xs0.length := by rw [hall0.length]; unfold lenD; rw [es0]; rfl
          refine ⟨_, rfl, a1, xs1, rfl, seq_any (ha1.imp (sB _ _) (sB _ _)), _, rfl, ix_any (seq_any (ha.imp (sB _ _) (sB _ _))) (atI_nat (j := 0) ev0) ⟨a0, xs0, rfl, seq_any (ha0.imp (sB _ _) (sB _ _)), rfl, _, rfl, ?_⟩⟩
          have dn : decide (V.int (xs1.length : Int) = V.int (xs0.length : Int)) = decide (lenD d1 = lenD d0) := decide_eq_decide.mpr ⟨fun z => by injection z with z; omega, fun z => by rw [← n1, ← n0, z]⟩
          rw [dn]
          cases el : decide (lenD d1 = lenD d0) with
          | false =>
            refine ifT rfl ?_
            rw [stepE, el, Bool.and_false] at k
            exact ⟨_, rfl, k _ sB⟩
          | true =>
            refine ifF rfl ?_
            rw [el, Bool.and_true, e0] at stepE
            dsimp only [tNext]
            refine ifs_go ?_
            refine ⟨_, rfl, a1, rfl, ?_⟩
            rcases id ha1 with e1 | e1
            · refine .inl ⟨xs1, SqL.of (sB _ _ e1), fun D nD => ?_⟩
              refine lc_list (xs := xs1) (fun j Hd => ∃ acc, Hd D = some (.lst acc) ∧ acc.length ≤ j ∧ acc.isEmpty = (ds1.take j).all isIntD ∧ Same H3 Hd) ⟨[], upd_same, Nat.zero_le _, rfl, same_new nD⟩ (fun j Hd _ hP => by obtain ⟨_, _, _, _, s⟩ := hP; exact SqL.of (s _ _ (sB _ _ e1))) (fun j y Hd hy hP => ?_) (fun Hd hP => ?_)
              · obtain ⟨acc, hD, la, ea, sd⟩ := hP
                obtain ⟨dy, edy, hdy⟩ := hall1.get hy
                have sC := sB.trans sd
                have hdy' := hdy.same sC
                obtain ⟨ty2, tyy, ki, kb⟩ := kit_bool (K := K) hdy'
                have ei := hdy'.isInt
                have lj := (List.getElem?_eq_some_iff.mp hy).1
                have tk : (ds1.take (j + 1)).all isIntD = ((ds1.take j).all isIntD && isIntD dy) := by
                  rw [take_snoc edy, List.all_append]
                  simp
                have bad : isIntD dy = false → ∃ acc, Hd D = some (.lst acc) ∧ acc.length < sizeLine ∧ ∃ acc2, upd Hd D (.lst (acc ++ [y])) D = some (.lst acc2) ∧ acc2.length ≤ j + 1 ∧ acc2.isEmpty = (ds1.take (j + 1)).all isIntD ∧ Same H3 (upd Hd D (.lst (acc ++ [y]))) := fun e =>
                  ⟨acc, hD, szl' (by omega), acc ++ [y], upd_same, by rw [List.length_append, List.length_singleton]; omega, by rw [tk, e, Bool.and_false]; simp, same_lst sd nD⟩
                refine ⟨rfl, _, rfl, _, _, _, _, _, rfl, .ty _, tyy, kit_ty kb, _, rfl, ?_⟩
                cases eb : isBl y with
                | true =>
                  have z : isIntD dy = false := by
                    rw [← ei]
                    cases y <;> first | rfl | cases eb
                  refine ifT rfl (ifT rfl ?_)
                  exact ⟨_, rfl, bad z⟩
                | false =>
                  refine ifF rfl ?_
                  rw [eb, Bool.or_false] at ki
                  refine ⟨_, rfl, _, _, _, _, _, rfl, .ty _, tyy, kit_ty ki, _, rfl, ?_⟩
                  rw [ei]
                  cases ez : isIntD dy with
                  | false =>
                    refine ifT rfl ?_
                    exact ⟨_, rfl, bad ez⟩
                  | true =>
                    refine ifF rfl ?_
                    exact ⟨acc, hD, by omega, by rw [tk, ez, Bool.and_true]; exact ea, sd⟩
              · obtain ⟨acc, hD, la, ea, sd⟩ := hP
                rw [lx1, List.take_length] at ea
                have sC := sB.trans sd
                refine ⟨szL (Nat.le_of_ble_eq_true rfl), fun l nl => ?_⟩
                have s5 := same_new (o := .lst []) nl
                refine ⟨D, l, acc, rfl, rfl, SqL.of (s5 _ _ hD), SqL.of upd_same, _, rfl, ?_⟩
                rw [ea]
                cases ez : ds1.all isIntD with
                | false =>
                  refine ifT rfl ?_
                  rw [stepE, ez] at k
                  exact ⟨_, rfl, k _ (sC.trans s5)⟩
                | true =>
                  refine ifF rfl ?_
                  have rz : (rowD d1).isSome = true := by rw [e0, ez]
                  refine ⟨_, _, rfl, ?_, ?_, sC.trans s5⟩
                  · rw [stepE, ez]
                    rfl
                  · intro _
                    by_cases z : 0 < i
                    · exact pre z
                    · obtain rfl : i = 0 := by omega
                      cases ed
                      exact rz
            · refine .inr ⟨xs1, SqT.of (sB _ _ e1), fun D nD => ?_⟩
              refine lc_tup (xs := xs1) (fun j Hd => ∃ acc, Hd D = some (.lst acc) ∧ acc.length ≤ j ∧ acc.isEmpty = (ds1.take j).all isIntD ∧ Same H3 Hd) ⟨[], upd_same, Nat.zero_le _, rfl, same_new nD⟩ (fun j Hd _ hP => by obtain ⟨_, _, _, _, s⟩ := hP; exact SqT.of (s _ _ (sB _ _ e1))) (fun j y Hd hy hP => ?_) (fun Hd hP => ?_)
              · obtain ⟨acc, hD, la, ea, sd⟩ := hP
                obtain ⟨dy, edy, hdy⟩ := hall1.get hy
                have sC := sB.trans sd
                have hdy' := hdy.same sC
                obtain ⟨ty2, tyy, ki, kb⟩ := kit_bool (K := K) hdy'
                have ei := hdy'.isInt
                have lj := (List.getElem?_eq_some_iff.mp hy).1
                have tk : (ds1.take (j + 1)).all isIntD = ((ds1.take j).all isIntD && isIntD dy) := by
                  rw [take_snoc edy, List.all_append]
                  simp
                have bad : isIntD dy = false → ∃ acc, Hd D = some (.lst acc) ∧ acc.length < sizeLine ∧ ∃ acc2, upd Hd D (.lst (acc ++ [y])) D = some (.lst acc2) ∧ acc2.length ≤ j + 1 ∧ acc2.isEmpty = (ds1.take (j + 1)).all isIntD ∧ Same H3 (upd Hd D (.lst (acc ++ [y]))) := fun e =>
                  ⟨acc, hD, szl' (by omega), acc ++ [y], upd_same, by rw [List.length_append, List.length_singleton]; omega, by rw [tk, e, Bool.and_false]; simp, same_lst sd nD⟩
                refine ⟨rfl, _, rfl, _, _, _, _, _, rfl, .ty _, tyy, kit_ty kb, _, rfl, ?_⟩
                cases eb : isBl y with
                | true =>
                  have z : isIntD dy = false := by
                    rw [← ei]
                    cases y <;> first | rfl | cases eb
                  refine ifT rfl (ifT rfl ?_)
                  exact ⟨_, rfl, bad z⟩
                | false =>
                  refine ifF rfl ?_
                  rw [eb, Bool.or_false] at ki
                  refine ⟨_, rfl, _, _, _, _, _, rfl, .ty _, tyy, kit_ty ki, _, rfl, ?_⟩
                  rw [ei]
                  cases ez : isIntD dy with
                  | false =>
                    refine ifT rfl ?_
                    exact ⟨_, rfl, bad ez⟩
                  | true =>
                    refine ifF rfl ?_
                    exact ⟨acc, hD, by omega, by rw [tk, ez, Bool.and_true]; exact ea, sd⟩
              · obtain ⟨acc, hD, la, ea, sd⟩ := hP
                rw [lx1, List.take_length] at ea
                have sC := sB.trans sd
                refine ⟨szL (Nat.le_of_ble_eq_true rfl), fun l nl => ?_⟩
                have s5 := same_new (o := .lst []) nl
                refine ⟨D, l, acc, rfl, rfl, SqL.of (s5 _ _ hD), SqL.of upd_same, _, rfl, ?_⟩
                rw [ea]
                cases ez : ds1.all isIntD with
                | false =>
                  refine ifT rfl ?_
                  rw [stepE, ez] at k
                  exact ⟨_, rfl, k _ (sC.trans s5)⟩
                | true =>
                  refine ifF rfl ?_
                  have rz : (rowD d1).isSome = true := by rw [e0, ez]
                  refine ⟨_, _, rfl, ?_, ?_, sC.trans s5⟩
                  · rw [stepE, ez]
                    rfl
                  · intro _
                    by_cases z : 0 < i
                    · exact pre z
                    · obtain rfl : i = 0 := by omega
                      cases ed
                      exact rz
        · refine ifF (decide_eq_false (by omega)) ?_
          have el : decide (lenD d1 = lenD d0) = true := by
            have z : i = 0 := by omega
            rw [z] at ed
            cases ed
            exact decide_eq_true rfl
          refine ifF rfl ?_
          rw [el, Bool.and_true, e0] at stepE
          dsimp only [tNext]
          refine ifs_go ?_
          refine ⟨_, rfl, a1, rfl, ?_⟩
          rcases id ha1 with e1 | e1
          · refine .inl ⟨xs1, SqL.of (sB _ _ e1), fun D nD => ?_⟩
            refine lc_list (xs := xs1) (fun j Hd => ∃ acc, Hd D = some (.lst acc) ∧ acc.length ≤ j ∧ acc.isEmpty = (ds1.take j).all isIntD ∧ Same H3 Hd) ⟨[], upd_same, Nat.zero_le _, rfl, same_new nD⟩ (fun j Hd _ hP => by obtain ⟨_, _, _, _, s⟩ := hP; exact SqL.of (s _ _ (sB _ _ e1))) (fun j y Hd hy hP => ?_) (fun Hd hP => ?_)
            · obtain ⟨acc, hD, la, ea, sd⟩ := hP
              obtain ⟨dy, edy, hdy⟩ := hall1.get hy
              have sC := sB.trans sd
              have hdy' := hdy.same sC
              obtain ⟨ty2, tyy, ki, kb⟩ := kit_bool (K := K) hdy'
              have ei := hdy'.isInt
              have lj := (List.getElem?_eq_some_iff.mp hy).1
              have tk : (ds1.take (j + 1)).all isIntD = ((ds1.take j).all isIntD && isIntD dy) := by
                rw [take_snoc edy, List.all_append]
                simp
              have bad : isIntD dy = false → ∃ acc, Hd D = some (.lst acc) ∧ acc.length < sizeLine ∧ ∃ acc2, upd Hd D (.lst (acc ++ [y])) D = some (.lst acc2) ∧ acc2.length ≤ j + 1 ∧ acc2.isEmpty = (ds1.take (j + 1)).all isIntD ∧ Same H3 (upd Hd D (.lst (acc ++ [y]))) := fun e =>
                ⟨acc, hD, szl' (by omega), acc ++ [y], upd_same, by rw [List.length_append, List.length_singleton]; omega, by rw [tk, e, Bool.and_false]; simp, same_lst sd nD⟩
              refine ⟨rfl, _, rfl, _, _, _, _, _, rfl, .ty _, tyy, kit_ty kb, _, rfl, ?_⟩
              cases eb : isBl y with
              | true =>
                have z : isIntD dy = false := by
                  rw [← ei]
                  cases y <;> first | rfl | cases eb
                refine ifT rfl (ifT rfl ?_)
                exact ⟨_, rfl, bad z⟩
              | false =>
                refine ifF rfl ?_
                rw [eb, Bool.or_false] at ki
                refine ⟨_, rfl, _, _, _, _, _, rfl, .ty _, tyy, kit_ty ki, _, rfl, ?_⟩
                rw [ei]
                cases ez : isIntD dy with
                | false =>
                  refine ifT rfl ?_
                  exact ⟨_, rfl, bad ez⟩
                | true =>
                  refine ifF rfl ?_
                  exact ⟨acc, hD, by omega, by rw [tk, ez, Bool.and_true]; exact ea, sd⟩
            · obtain ⟨acc, hD, la, ea, sd⟩ := hP
              rw [lx1, List.take_length] at ea
              have sC := sB.trans sd
              refine ⟨szL (Nat.le_of_ble_eq_true rfl), fun l nl => ?_⟩
              have s5 := same_new (o := .lst []) nl
              refine ⟨D, l, acc, rfl, rfl, SqL.of (s5 _ _ hD), SqL.of upd_same, _, rfl, ?_⟩
              rw [ea]
              cases ez : ds1.all isIntD with
              | false =>
                refine ifT rfl ?_
                rw [stepE, ez] at k
                exact ⟨_, rfl, k _ (sC.trans s5)⟩
              | true =>
                refine ifF rfl ?_
                have rz : (rowD d1).isSome = true := by rw [e0, ez]
                refine ⟨_, _, rfl, ?_, ?_, sC.trans s5⟩
                · rw [stepE, ez]
                  rfl
                · intro _
                  by_cases z : 0 < i
                  · exact pre z
                  · obtain rfl : i = 0 := by omega
                    cases ed
                    exact rz
          · refine .inr ⟨xs1, SqT.of (sB _ _ e1), fun D nD => ?_⟩
            refine lc_tup (xs := xs1) (fun j Hd => ∃ acc, Hd D = some (.lst acc) ∧ acc.length ≤ j ∧ acc.isEmpty = (ds1.take j).all isIntD ∧ Same H3 Hd) ⟨[], upd_same, Nat.zero_le _, rfl, same_new nD⟩ (fun j Hd _ hP => by obtain ⟨_, _, _, _, s⟩ := hP; exact SqT.of (s _ _ (sB _ _ e1))) (fun j y Hd hy hP => ?_) (fun Hd hP => ?_)
            · obtain ⟨acc, hD, la, ea, sd⟩ := hP
              obtain ⟨dy, edy, hdy⟩ := hall1.get hy
              have sC := sB.trans sd
              have hdy' := hdy.same sC
              obtain ⟨ty2, tyy, ki, kb⟩ := kit_bool (K := K) hdy'
              have ei := hdy'.isInt
              have lj := (List.getElem?_eq_some_iff.mp hy).1
              have tk : (ds1.take (j + 1)).all isIntD = ((ds1.take j).all isIntD && isIntD dy) := by
                rw [take_snoc edy, List.all_append]
                simp
              have bad : isIntD dy = false → ∃ acc, Hd D = some (.lst acc) ∧ acc.length < sizeLine ∧ ∃ acc2, upd Hd D (.lst (acc ++ [y])) D = some (.lst acc2) ∧ acc2.length ≤ j + 1 ∧ acc2.isEmpty = (ds1.take (j + 1)).all isIntD ∧ Same H3 (upd Hd D (.lst (acc ++ [y]))) := fun e =>
                ⟨acc, hD, szl' (by omega), acc ++ [y], upd_same, by rw [List.length_append, List.length_singleton]; omega, by rw [tk, e, Bool.and_false]; simp, same_lst sd nD⟩
              refine ⟨rfl, _, rfl, _, _, _, _, _, rfl, .ty _, tyy, kit_ty kb, _, rfl, ?_⟩
              cases eb : isBl y with
              | true =>
                have z : isIntD dy = false := by
                  rw [← ei]
                  cases y <;> first | rfl | cases eb
                refine ifT rfl (ifT rfl ?_)
                exact ⟨_, rfl, bad z⟩
              | false =>
                refine ifF rfl ?_
                rw [eb, Bool.or_false] at ki
                refine ⟨_, rfl, _, _, _, _, _, rfl, .ty _, tyy, kit_ty ki, _, rfl, ?_⟩
                rw [ei]
                cases ez : isIntD dy with
                | false =>
                  refine ifT rfl ?_
                  exact ⟨_, rfl, bad ez⟩
                | true =>
                  refine ifF rfl ?_
                  exact ⟨acc, hD, by omega, by rw [tk, ez, Bool.and_true]; exact ea, sd⟩
            · obtain ⟨acc, hD, la, ea, sd⟩ := hP
              rw [lx1, List.take_length] at ea
              have sC := sB.trans sd
              refine ⟨szL (Nat.le_of_ble_eq_true rfl), fun l nl => ?_⟩
              have s5 := same_new (o := .lst []) nl
              refine ⟨D, l, acc, rfl, rfl, SqL.of (s5 _ _ hD), SqL.of upd_same, _, rfl, ?_⟩
              rw [ea]
              cases ez : ds1.all isIntD with
              | false =>
                refine ifT rfl ?_
                rw [stepE, ez] at k
                exact ⟨_, rfl, k _ (sC.trans s5)⟩
              | true =>
                refine ifF rfl ?_
                have rz : (rowD d1).isSome = true := by rw [e0, ez]
                refine ⟨_, _, rfl, ?_, ?_, sC.trans s5⟩
                · rw [stepE, ez]
                  rfl
                · intro _
                  by_cases z : 0 < i
                  · exact pre z
                  · obtain rfl : i = 0 := by omega
                    cases ed
                    exact rz
      · obtain ⟨y1, y2, rfl, eS, pre, sc⟩ := hP
        rw [List.drop_eq_nil_of_le (by rw [List.length_cons]; omega)] at eS
        rw [eS] at k
        dsimp only
        refine ret_go ?_
        exact k _ sc

end
end K17
namespace K17
open PySem PySem.Spec PyProof.Rows L2 Rs
local macro_rules | `(tactic| walk_at "om") => `(tactic| first | omega | (dsimp only; omega))
local macro_rules | `(tactic| walk_at "side") => `(tactic| first | omega | (dsimp only; omega) | decide | (unfold CMul; omega) | (unfold CDiv; omega) | (unfold CPow; omega) | exact wide_div (b := 64) (by omega) (by omega) (by decide) (by decide))
local macro_rules | `(tactic| walk_at "hp") => `(tactic| first | assumption | exact upd_same)
local macro_rules | `(tactic| walk_at "sq") => `(tactic| first | assumption | exact SqL.of (by assumption) | exact SqL.of upd_same)
local macro_rules | `(tactic| walk_at "st") => `(tactic| first
  | refine ⟨_, rfl, ?_⟩
  | (refine ⟨_, _, rfl, rfl, And.intro ?side ?_⟩; (case side => walk_at "side"))
  | refine ⟨_, _, rfl, rfl, ?_⟩
  | (refine' ⟨_, _, _, _, rfl, rfl, SqL.of ?hp, ?atx, ?_⟩; (case hp => walk_at "hp"); (case atx => exact rfl))
  | (refine' ⟨_, _, _, _, rfl, rfl, ?hp, ?atx, ?_⟩; (case hp => walk_at "hp"); (case atx => exact rfl))
  | (refine' ⟨_, _, rfl, Or.inl ?sq, ?_⟩; (case sq => walk_at "sq"))
  | refine Or.inl ⟨_, rfl, ?_⟩
  | refine Or.inr ⟨_, rfl, ?_⟩)
local macro_rules | `(tactic| walk_at "evd") => `(tactic| first
  | exact evd_int
  | exact evd_str
  | exact evd_non
  | exact evd_bl
  | exact evd_nil
  | (refine evd_cons ?_ (fun _ => ?_) <;> walk_at "evd")
  | (refine evd_tup ?_ (Nat.le_of_ble_eq_true rfl); walk_at "evd"))

section
variable {P : Program} {w : World} {K : PySem.W.Frag} {mg : Str → Option Value} {base : Heap}
/-- no sequence of more than three things, to the second level -/
def Short (d : PyData) : Prop := ∀ ds, seqD d = some ds → ds.length ≤ 3
def Short2 (d : PyData) : Prop := ∀ ds, seqD d = some ds → ds.length ≤ 3 ∧ ∀ x ∈ ds, Short x
theorem Short2.one {d : PyData} (h : Short2 d) : Short d := fun ds e => (h ds e).1
theorem Short2.wide {d : PyData} (h : Short2 d) : Wide d := fun ds e => ⟨Nat.le_trans (h ds e).1 (by decide), fun x hx xs ex => Nat.le_trans ((h ds e).2 x hx xs ex) (by decide)⟩
theorem short_list {ds : List PyData} (l : ds.length ≤ 3) (h : ∀ x ∈ ds, Short2 x) : Short2 (.list ds) := fun es e => by
  cases e
  exact ⟨l, fun x hx => (h x hx).one⟩
theorem short_tuple {ds : List PyData} (l : ds.length ≤ 3) (h : ∀ x ∈ ds, Short2 x) : Short2 (.tuple ds) := fun es e => by
  cases e
  exact ⟨l, fun x hx => (h x hx).one⟩
theorem short_leaf {d : PyData} (h : seqD d = none) : Short2 d := fun es e => by rw [h] at e; cases e
theorem short_nilT : Short2 (.tuple []) := short_tuple (by decide) fun x h => absurd h (by simp)
theorem short_nilL : Short2 (.list []) := short_list (by decide) fun x h => absurd h (by simp)
def spAny (n : Nat) : Sp := fun vs H Q _ => ∃ (b : Addr), vs = [.ref b, .int n] ∧ Box H b ∧ ∀ (v : V) (d : PyData) (H' : Hp), Da (fun a => H a ≠ none) H' v d → Sm (n + 1) d ∧ Short2 d → Box H' b → But b H H' → Q v H'
theorem none_ok {f : Addr} {fd : FuncData} {ps : List Str} {k : Nat} : FnOk P w K mg base CX0 k f fd ps (fun _ _ _ _ => False) := ⟨fun _ _ _ _ h => h.elim, fun _ _ _ _ _ _ _ _ _ _ _ _ _ h => h.elim⟩
theorem box_some {H : Hp} {b : Addr} (B : Box H b) : H b ≠ none := by
  obtain ⟨x, y, z, h, _⟩ := B
  intro e
  rw [e] at h
  cases h
/-- what stood before, b aside, stands still -/
theorem Da.but {S S' : Addr → Prop} {b : Addr} {H H' : Hp} {v : V} {d : PyData} (h : Da S H v d) (B : Box H b) (k : But b H H') (sb : S b) (hS : ∀ a, S' a → S a) : Da S' H' v d :=
  Da.mono hS (fun a xs n e => k _ _ (fun z => n (by rw [z]; exact sb)) e) (fun a xs e => B.fz k _ _ trivial e) d v h
def oddV (p1 p2 : Addr) : List V := [.non, .bl true, .bl false, .int 0, .int 1, .int (-1), .int (10 ^ 8), .str (Str.ofString ""), .str (Str.ofString "n"), .str (Str.ofString "lost"), .str (Str.ofString "up - 0 add"), .str (Str.ofString "rounds n"), .ref p1, .ref p2]
theorem any_step (T : Txt K mg) (d k : Nat) (hk : 2 ≤ k) (sp : Sp) (G__law_any : FnOk P w K mg base CX0 k T.a__law_any T.d__law_any ["_law_box_here", "_law_deep"] sp)
    (hsp : ∀ d', d = d' + 1 → sp = spAny d') : FnOk P w K mg base CX0 (k + 1) T.a__law_any T.d__law_any ["_law_box_here", "_law_deep"] (spAny d) := by
  have G__law_take : FnOk P w K mg base CX0 1 T.a__law_take T.d__law_take ["_law_box_here", "_law_many"] spTake := ok_take T
  have G__law_pick : FnOk P w K mg base CX0 2 T.a__law_pick T.d__law_pick ["_law_box_here", "_law_items"] spPick := ok_pick T
  refine T.F__law_any.ok sc__law_any (fun vs H Q E h => ?_) (fun cdv A outer s H vs Q E hr h => ?_)
  · obtain ⟨b, rfl, _⟩ := h
    rfl
  · obtain ⟨b, rfl, hB, k⟩ := h
    have nd := sc__law_any.nd
    have hr2 : Room 2 _ := hr.mono hk
    refine ⟨_, (pss_cons (ps_set (i := 2) nd rfl (Or.inl rfl) (pe_lst (pa_cons pe_non (pa_cons pe_bl (pa_cons pe_bl (pa_cons pe_int (pa_cons pe_int (pa_cons (pe_un un_neg pe_int) (pa_cons (pe_op op_pow pe_int pe_int) (pa_cons pe_str (pa_cons pe_str (pa_cons pe_str (pa_cons pe_str (pa_cons pe_str (pa_cons (pe_tup pa_nil) (pa_cons (pe_lst pa_nil) pa_nil))))))))))))))))
    (pss_cons (ps_if (PW.pt (pw_or (pt_cmpR op_eq (pv 1) pe_int (nomark _)) (pw_or1 (pt_cmpR op_gt (pe_call G__law_take (hr.mono (by first | decide | omega)) (by rfl) T.m__law_take T.k__law_take T.b__law_take .nil pass0 (pa_cons (pv 0) (pa_cons pe_int pa_nil))) pe_int (nomark _))))) (pss_one (ps_ret (pe_call G__law_pick (hr.mono (by first | decide | omega)) (by rfl) T.m__law_pick T.k__law_pick T.b__law_pick .nil pass0 (pa_cons (pv 0) (pa_cons (pv 2) pa_nil))))) pss_nil)
    (pss_cons (ps_setLc (i := 3) (own := [("_law_turn", 4)]) (g := (gName 4)) (by rfl) nd rfl rfl (sw_true rfl rfl rfl (by decide +kernel)) (pi_range1 (by rfl) T.z_range (pa_cons (pe_call G__law_take (hr.mono (by first | decide | omega)) (by rfl) T.m__law_take T.k__law_take T.b__law_take .nil pass0 (pa_cons (pv 0) (pa_cons pe_int pa_nil))) pa_nil)) (blkOk_by (N := ["_law_box_here", "_law_deep", "_law_odd", "_law_some", "_law_turn"]) (sc := defScope s__law_any) (own := [("_law_turn", 4)]) (by decide +kernel)) (fun _ _ _ _ _ => by exact (pg_name (i := 4) nd rfl (Or.inl rfl))) (fun _ _ _ _ _ => by exact pts_nil) (fun _ _ _ _ _ => by exact (pe_call G__law_any (hr.mono (by first | decide | omega)) (by rfl) T.m__law_any T.k__law_any T.b__law_any .nil pass0 (pa_cons (pv 0) (pa_cons (pe_op op_sub (pv 1) pe_int) pa_nil)))))
    (pss_one (ps_ret (pe_ifExp (pt_cmpR op_eq (pe_call G__law_take (hr.mono (by first | decide | omega)) (by rfl) T.m__law_take T.k__law_take T.b__law_take .nil pass0 (pa_cons (pv 0) (pa_cons pe_int pa_nil))) pe_int (nomark _)) (pe_callTy call_tuple_of (by rfl) T.z_tuple (by decide +kernel) (pa_cons (pv 3) pa_nil)) (pv 3))))))), ?_⟩
    refine asg_go ?_
    refine ⟨_, rfl, _, _, rfl, rfl, by walk_at "side", szL (Nat.le_of_ble_eq_true rfl), fun p1 np1 => ⟨szL (Nat.le_of_ble_eq_true rfl), fun p2 np2 => ⟨szL (Nat.le_of_ble_eq_true rfl), fun W nW => ?_⟩⟩⟩
    have s1 := same_new (o := .tup []) np1
    have h1 : upd H p1 (.tup []) p1 = some (.tup []) := upd_same
    generalize upd H p1 (.tup []) = Ha at s1 h1 np2 nW ⊢
    have s2 := same_new (o := .lst []) np2
    have h2 : upd Ha p2 (.lst []) p2 = some (.lst []) := upd_same
    generalize upd Ha p2 (.lst []) = Hb at s2 h2 nW ⊢
    have s3 := same_new (o := .lst (oddV p1 p2)) nW
    have h3 : upd Hb W (.lst (oddV p1 p2)) W = some (.lst (oddV p1 p2)) := upd_same
    have eO : [V.non, .bl true, .bl false, .int 0, .int 1, .int (-1), .int (10 ^ (8 : Int).toNat), .str (Str.ofString ""), .str (Str.ofString "n"), .str (Str.ofString "lost"), .str (Str.ofString "up - 0 add"), .str (Str.ofString "rounds n"), .ref p1, .ref p2] = oddV p1 p2 := rfl
    rw [eO]
    generalize upd Hb W (.lst (oddV p1 p2)) = H0 at s3 h3 ⊢
    have s03 := (s1.trans s2).trans s3
    have B0 := hB.same s03
    have k0 : But b H H0 := But.of_same s03
    have hp1 := s3 _ _ (s2 _ _ h1)
    have hp2 := s3 _ _ h2
    have n1 : ¬ (H p1 ≠ none) := fun z => z np1
    have n2 : ¬ (H p2 ≠ none) := fun z => z (s1.free np2)
    have wb : W ≠ b := (hB.same (s1.trans s2)).ne_none nW
    have pb1 : p1 ≠ b := hB.ne_none np1
    have pb2 : p2 ≠ b := (hB.same s1).ne_none np2
    dsimp only [gName]
    refine seqif_go (or_go (tst_go ?_))
    refine ⟨_, rfl, rfl, _, rfl, ?_⟩
    have pick : ∀ (v : V) (H5 : Hp), v ∈ oddV p1 p2 → Box H5 b → But b H0 H5 → Q v H5 := fun v H5 hv B5 k5 => by
      have kk := k0.trans k5
      unfold oddV at hv
      simp only [List.mem_cons, List.not_mem_nil, or_false] at hv
      rcases hv with h | h | h | h | h | h | h | h | h | h | h | h | h | h
      case' inr.inr.inr.inr.inr.inr.inr.inr.inr.inr.inr.inr.inl =>
        subst h
        exact k _ (.tuple []) H5 (.tup (k5 _ _ pb1 hp1) .nil) ⟨sm_leaf (by decide +kernel) (by decide +kernel) (by decide +kernel) (by decide +kernel), short_nilT⟩ B5 kk
      case' inr.inr.inr.inr.inr.inr.inr.inr.inr.inr.inr.inr.inr =>
        subst h
        exact k _ (.list []) H5 (.lst n2 (k5 _ _ pb2 hp2) .nil) ⟨sm_leaf (by decide +kernel) (by decide +kernel) (by decide +kernel) (by decide +kernel), short_nilL⟩ B5 kk
      all_goals
        subst h
        first
          | exact k _ _ H5 .non ⟨sm_leaf rfl rfl (by decide +kernel) (by decide +kernel), short_leaf rfl⟩ B5 kk
          | exact k _ _ H5 (.bl _) ⟨sm_leaf rfl rfl (by decide +kernel) (by decide +kernel), short_leaf rfl⟩ B5 kk
          | exact k _ _ H5 (.int _) ⟨sm_leaf (by decide +kernel) rfl (by decide +kernel) (by decide +kernel), short_leaf rfl⟩ B5 kk
          | exact k _ _ H5 (.str _) ⟨sm_leaf rfl rfl (by decide +kernel) (by decide +kernel), short_leaf rfl⟩ B5 kk
    by_cases d0 : d = 0
    · refine ifT (decide_eq_true (by rw [d0]; rfl)) (ifT rfl ?_)
      refine ret_go ?_
      exact ⟨_, rfl, _, rfl, b, W, _, rfl, B0, wb, h3, by show 0 < 14; decide, by show 14 < 1000; decide, pick⟩
    refine ifF (decide_eq_false (fun z => d0 (by injection z with z; omega))) ?_
    refine ⟨_, rfl, b, 3, rfl, B0, by decide, by decide, fun r H1 r0 r1 B1 kr => ?_⟩
    refine ⟨_, _, rfl, rfl, _, rfl, ?_⟩
    refine ifB (fun _ => ?_) (fun _ => ?_)
    · refine ret_go ?_
      exact ⟨_, rfl, _, rfl, b, W, _, rfl, B1, wb, kr _ _ wb h3, by show 0 < 14; decide, by show 14 < 1000; decide, fun v H5 hv B5 k5 => pick v H5 hv B5 (kr.trans k5)⟩
    have k1 := k0.trans kr
    dsimp only [tNext]
    obtain ⟨d', rfl⟩ : ∃ d', d = d' + 1 := ⟨d - 1, by omega⟩
    have esp := hsp d' rfl
    subst esp
    refine asg_go ?_
    refine ⟨_, rfl, b, 4, rfl, B1, by decide, by decide, fun m H2 m0 m1 B2 k2 => ?_⟩
    have k12 := k1.trans k2
    refine ⟨m, rfl, by omega, by omega, fun D hD => lc_range (fun i H3 => ∃ acc ds, H3 D = some (.lst acc) ∧ acc.length = i ∧ DaAll (fun a => a = D ∨ H a ≠ none) H3 acc ds ∧ (∀ x ∈ ds, Sm (d' + 1) x ∧ Short2 x) ∧ Box H3 b ∧ But b H2 H3)
      ⟨[], [], upd_same, rfl, .nil, (fun x h => nomatch h), B2.same (same_new hD), But.of_same (same_new hD)⟩ (fun i H3 hi hP => ?_) (fun H3 hP => ?_)⟩
    · obtain ⟨acc, ds, hA, hl, hacc, hds, B3, k3⟩ := hP
      have neD := B2.ne_none hD
      have bS : H b ≠ none := box_some hB
      refine ⟨rfl, _, rfl, _, rfl, _, _, rfl, rfl, b, ?_, B3, fun v dd H4 hv hm B4 k4 => ?_⟩
      · show [V.ref b, V.int (((d' + 1 : Nat) : Int) - 1)] = [V.ref b, V.int (d' : Nat)]
        rw [show (((d' + 1 : Nat) : Int) - 1) = (d' : Nat) by omega]
      have hA4 := k4 _ _ neD hA
      have old : ∀ a, (a = D ∨ H a ≠ none) → H3 a ≠ none := fun a h => by
        rcases h with h | h
        · subst h
          rw [hA]
          exact fun z => nomatch z
        · intro z
          cases e : H a with
          | none => exact h e
          | some o =>
            by_cases c : a = b
            · subst c
              exact box_some B3 z
            · rw [(k12.trans k3) _ _ c e] at z
              cases z
      have setD : ∀ {x dx}, Da (fun a => a = D ∨ H a ≠ none) H4 x dx → Da (fun a => a = D ∨ H a ≠ none) (upd H4 D (.lst (acc ++ [v]))) x dx := fun {x dx} h =>
        Da.mono (fun _ z => z) (fun a xs n e => by rw [upd_ne (fun z => n (.inl z))]; exact e) (fun a xs e => by rw [upd_ne (fun z => by rw [z, hA4] at e; cases e)]; exact e) _ _ h
      have setA : ∀ {xs dxs}, DaAll (fun a => a = D ∨ H a ≠ none) H4 xs dxs → DaAll (fun a => a = D ∨ H a ≠ none) (upd H4 D (.lst (acc ++ [v]))) xs dxs := fun {xs dxs} h =>
        DaAll.mono (fun _ z => z) (fun a xs n e => by rw [upd_ne (fun z => n (.inl z))]; exact e) (fun a xs e => by rw [upd_ne (fun z => by rw [z, hA4] at e; cases e)]; exact e) _ _ h
      have hacc4 : DaAll (fun a => a = D ∨ H a ≠ none) H4 acc ds := DaAll.mono (fun _ z => z) (fun a xs n e => k4 _ _ (fun z => n (.inr (by rw [z]; exact bS))) e) (fun a xs e => B3.fz k4 _ _ trivial e) _ _ hacc
      have hv4 : Da (fun a => a = D ∨ H a ≠ none) H4 v dd := Da.mono old (fun _ _ _ e => e) (fun _ _ e => e) _ _ hv
      refine ⟨acc, hA4, szl (by omega), acc ++ [v], ds ++ [dd], upd_same, by rw [List.length_append, hl]; rfl, (setA hacc4).snoc (setD hv4), fun x hx => ?_, box_ne B4 neD, but_new (k3.trans k4) hD⟩
      rcases List.mem_append.mp hx with h | h
      · exact hds x h
      · rw [List.mem_singleton] at h
        subst h
        exact hm
    · obtain ⟨acc, ds, hA, hl, hacc, hds, B3, k3⟩ := hP
      have neD := B2.ne_none hD
      have kk := k12.trans k3
      have HD : ¬ (H D ≠ none) := fun z => z (k12.free neD hD)
      have ll := hacc.length
      have hacc0 : DaAll (fun a => H a ≠ none) H3 acc ds := DaAll.mono (fun _ z => .inr z) (fun _ _ _ e => e) (fun _ _ e => e) _ _ hacc
      dsimp only [gName]
      refine ret_go (if_go (tst_go ?_))
      refine ⟨_, rfl, b, 2, rfl, B3, by decide, by decide, fun r2 H6 r20 r21 B6 k6 => ?_⟩
      have k06 := (k0.trans kr).trans ((k2.trans k3).trans k6)
      have hacc6 : DaAll (fun a => H a ≠ none) H6 acc ds := DaAll.mono (fun _ z => z) (fun a xs n e => k6 _ _ (fun z => n (by rw [z]; exact box_some hB)) e) (fun a xs e => B3.fz k6 _ _ trivial e) _ _ hacc0
      have hA6 := k6 _ _ neD hA
      refine ⟨rfl, _, rfl, ?_⟩
      refine ifB (fun _ => ?_) (fun _ => ?_)
      · refine ⟨_, rfl, D, acc, rfl, .inl ⟨SqL.of hA6, fun l hl' => ?_⟩⟩
        have sl := same_new (o := .tup acc) hl'
        exact k _ _ _ (.tup upd_same (DaAll.mono (fun _ z => z) (fun _ _ _ e => sl _ _ e) (fun _ _ e => sl _ _ e) _ _ hacc6)) ⟨sm_tuple (fun x hx => (hds x hx).1) (by omega), short_tuple (by omega) fun x hx => (hds x hx).2⟩ (B6.same sl) (k06.trans (But.of_same sl))
      · exact ⟨_, rfl, k _ _ _ (.lst HD hA6 hacc6) ⟨sm_list (fun x hx => (hds x hx).1) (by omega), short_list (by omega) fun x hx => (hds x hx).2⟩ B6 k06⟩
theorem ok_any (T : Txt K mg) : ∀ d : Nat, FnOk P w K mg base CX0 (3 + d) T.a__law_any T.d__law_any ["_law_box_here", "_law_deep"] (spAny d)
  | 0 => any_step T 0 2 (Nat.le_refl _) _ none_ok (fun d' h => by omega)
  | d + 1 => any_step T (d + 1) (3 + d) (by omega) (spAny d) (ok_any T d) (fun d' h => by rw [show d' = d by omega])

end
end K17
namespace K17
open PySem PySem.Spec PyProof.Rows L2 Rs
local macro_rules | `(tactic| walk_at "om") => `(tactic| first | omega | (dsimp only; omega))
local macro_rules | `(tactic| walk_at "side") => `(tactic| first | omega | (dsimp only; omega) | decide | (unfold CMul; omega) | (unfold CDiv; omega) | (unfold CPow; omega) | exact wide_div (b := 64) (by omega) (by omega) (by decide) (by decide))
local macro_rules | `(tactic| walk_at "hp") => `(tactic| first | assumption | exact upd_same)
local macro_rules | `(tactic| walk_at "sq") => `(tactic| first | assumption | exact SqL.of (by assumption) | exact SqL.of upd_same)
local macro_rules | `(tactic| walk_at "st") => `(tactic| first
  | refine ⟨_, rfl, ?_⟩
  | (refine ⟨_, _, rfl, rfl, And.intro ?side ?_⟩; (case side => walk_at "side"))
  | refine ⟨_, _, rfl, rfl, ?_⟩
  | (refine' ⟨_, _, _, _, rfl, rfl, SqL.of ?hp, ?atx, ?_⟩; (case hp => walk_at "hp"); (case atx => exact rfl))
  | (refine' ⟨_, _, _, _, rfl, rfl, ?hp, ?atx, ?_⟩; (case hp => walk_at "hp"); (case atx => exact rfl))
  | (refine' ⟨_, _, rfl, Or.inl ?sq, ?_⟩; (case sq => walk_at "sq"))
  | refine Or.inl ⟨_, rfl, ?_⟩
  | refine Or.inr ⟨_, rfl, ?_⟩)
local macro_rules | `(tactic| walk_at "evd") => `(tactic| first
  | exact evd_int
  | exact evd_str
  | exact evd_non
  | exact evd_bl
  | exact evd_nil
  | (refine evd_cons ?_ (fun _ => ?_) <;> walk_at "evd")
  | (refine evd_tup ?_ (Nat.le_of_ble_eq_true rfl); walk_at "evd"))

section
variable {P : Program} {w : World} {K : PySem.W.Frag} {mg : Str → Option Value} {base : Heap}
/-! rows that the law draws -/
def rowL (r : List Int) : PyData := .list (r.map PyData.int)
def rowsL (rs : List (List Int)) : PyData := .list (rs.map rowL)
def Few (z : Int) : Prop := -100000000 ≤ z ∧ z ≤ 100000000
def spInteger : Sp := fun vs H Q _ => ∃ (b : Addr), vs = [.ref b] ∧ Box H b ∧ ∀ (z : Int) (H' : Hp), Few z → Box H' b → But b H H' → Q (.int z) H'
theorem ok_integer (T : Txt K mg) : FnOk P w K mg base CX0 3 T.a__law_integer T.d__law_integer ["_law_box_here"] spInteger := by
  have G__law_take : FnOk P w K mg base CX0 1 T.a__law_take T.d__law_take ["_law_box_here", "_law_many"] spTake := ok_take T
  have G__law_pick : FnOk P w K mg base CX0 2 T.a__law_pick T.d__law_pick ["_law_box_here", "_law_items"] spPick := ok_pick T
  refine T.F__law_integer.ok sc__law_integer (fun vs H Q E h => ?_) (fun cdv A outer s H vs Q E hr h => ?_)
  · obtain ⟨b, rfl, _⟩ := h
    rfl
  · obtain ⟨b, rfl, hB, k⟩ := h
    have nd := sc__law_integer.nd
    refine ⟨_, (pss_one (ps_ret (pe_call G__law_pick (hr.mono (by first | decide | omega)) (by rfl) T.m__law_pick T.k__law_pick T.b__law_pick .nil pass0 (pa_cons (pv 0) (pa_cons (pe_lst (pa_cons pe_int (pa_cons (pe_op op_pow pe_int pe_int) (pa_cons (pe_call G__law_take (hr.mono (by first | decide | omega)) (by rfl) T.m__law_take T.k__law_take T.b__law_take .nil pass0 (pa_cons (pv 0) (pa_cons (pe_op op_pow pe_int pe_int) pa_nil))) (pa_cons (pe_op op_sub pe_int (pe_call G__law_take (hr.mono (by first | decide | omega)) (by rfl) T.m__law_take T.k__law_take T.b__law_take .nil pass0 (pa_cons (pv 0) (pa_cons pe_int pa_nil)))) pa_nil))))) pa_nil))))), ?_⟩
    refine ret_go ?_
    refine ⟨_, rfl, _, _, rfl, rfl, by walk_at "side", _, rfl, _, _, rfl, rfl, by walk_at "side", b, _, rfl, hB, by decide, by decide, fun x H1 x0 x1 B1 k1 => ?_⟩
    refine ⟨_, rfl, b, 50, rfl, B1, by decide, by decide, fun y H2 y0 y1 B2 k2 => ?_⟩
    refine ⟨_, _, rfl, rfl, szL (Nat.le_of_ble_eq_true rfl), fun W nW => ?_⟩
    have s3 := same_new (o := .lst [.int 1, .int (10 ^ (8 : Int).toNat), .int x, .int (0 - y)]) nW
    refine ⟨b, W, _, rfl, B2.same s3, B2.ne_none nW, upd_same, by show 0 < 4; decide, by show 4 < 1000; decide, fun v H5 hv B5 k5 => ?_⟩
    have kk := ((k1.trans k2).trans (But.of_same s3)).trans k5
    simp only [List.mem_cons, List.not_mem_nil, or_false] at hv
    have x2 : x < 1000000 := x1
    rcases hv with h | h | h | h <;> subst h <;> refine k _ _ ?_ B5 kk
    · exact ⟨by decide, by decide⟩
    · exact ⟨by decide, by decide⟩
    · exact ⟨by omega, by omega⟩
    · exact ⟨by omega, by omega⟩
def spRows : Sp := fun vs H Q _ => ∃ (b : Addr) (n m : Nat), vs = [.ref b, .int (n : Int), .int (m : Int)] ∧ Box H b ∧ n ≤ 100 ∧ m ≤ 100 ∧
  ∀ (F : Addr) (rs : List (List Int)) (H' : Hp), rs.length = n → (∀ r ∈ rs, r.length = m ∧ ∀ z ∈ r, Few z) → Da (fun a => H a ≠ none) H' (.ref F) (rowsL rs) → Box H' b → But b H H' → Q (.ref F) H'
theorem da_ints {S : Addr → Prop} {H : Hp} : ∀ {r : List Int}, DaAll S H (r.map V.int) (r.map PyData.int)
  | [] => .nil
  | _ :: r => .cons (.int _) da_ints
theorem ok_rows (T : Txt K mg) : FnOk P w K mg base CX0 4 T.a__law_rows T.d__law_rows ["_law_box_here", "_law_n", "_law_size"] spRows := by
  have G__law_integer : FnOk P w K mg base CX0 3 T.a__law_integer T.d__law_integer ["_law_box_here"] spInteger := ok_integer T
  refine T.F__law_rows.ok sc__law_rows (fun vs H Q E h => ?_) (fun cdv A outer s H vs Q E hr h => ?_)
  · obtain ⟨b, n, m, rfl, _⟩ := h
    rfl
  · obtain ⟨b, n, m, rfl, hB, n1, m1, k⟩ := h
    have nd := sc__law_rows.nd
    refine ⟨_, (pss_cons (ps_set (i := 3) nd rfl (Or.inl rfl) (pe_lst pa_nil))
    (pss_cons (ps_for PassesOwn.never rfl (pi_range1 (by rfl) T.z_range (pa_cons (pv 1) pa_nil)) (pg_name (i := 4) nd rfl (Or.inl rfl))
    (pss_one (ps_expr (pe_bm PySem.F.plainAttrs_list PySem.F.slot_list_append PySem.F.type_list_append mt_append (pv 3) (pa_cons (pe_lc (own := [("_law_spot", 5)]) (g := (gName 5)) (by rfl) nd (pi_range1 (by rfl) T.z_range (pa_cons (pv 2) pa_nil)) (blkOk_by (N := ["_law_box_here", "_law_n", "_law_size", "_law_found", "_law_turn", "_law_spot"]) (sc := defScope s__law_rows) (own := [("_law_spot", 5)]) (by decide +kernel)) (fun _ _ _ _ _ => by exact (pg_name (i := 5) nd rfl (Or.inl rfl))) (fun _ _ _ _ _ => by exact pts_nil) (fun _ _ _ _ _ => by exact (pe_call G__law_integer (hr.mono (by first | decide | omega)) (by rfl) T.m__law_integer T.k__law_integer T.b__law_integer .nil pass0 (pa_cons (pv 0) pa_nil)))) pa_nil)))))
    (pss_one (ps_ret (pv 3))))), ?_⟩
    refine asg_go ?_
    refine ⟨szL (Nat.le_of_ble_eq_true rfl), fun F nF => ?_⟩
    have neF := hB.ne_none nF
    dsimp only [gName]
    refine ⟨_, rfl, (n : Int), rfl, by omega, by omega, ?_⟩
    refine for_range (fun i σ Hc => ∃ y4 us rs, σ = [some (.ref b), some (.int n), some (.int m), some (.ref F), y4, none] ∧ Hc F = some (.lst us) ∧ rs.length = i ∧ (∀ r ∈ rs, r.length = m ∧ ∀ z ∈ r, Few z) ∧ DaAll (fun a => a = F ∨ H a ≠ none) Hc us (rs.map rowL) ∧ Box Hc b ∧ But b H Hc)
      ⟨none, [], [], rfl, upd_same, rfl, fun r h => absurd h (by simp), .nil, hB.same (same_new nF), But.of_same (same_new nF)⟩ (fun i σ Hc hi hP => ?_) (fun σ Hc hP => ?_)
    · obtain ⟨y4, us, rs, rfl, hF, hl, hrs, hus, Bc, kc⟩ := hP
      dsimp only [gName]
      refine ⟨_, rfl, .inl ⟨rfl, _, SqL.of hF⟩, ?_⟩
      refine ⟨_, rfl, (m : Int), rfl, by omega, by omega, fun D nD => ?_⟩
      have neD := Bc.ne_none nD
      refine lc_range (fun j Hd => ∃ r : List Int, Hd D = some (.lst (r.map V.int)) ∧ r.length = j ∧ (∀ z ∈ r, Few z) ∧ Box Hd b ∧ But b Hc Hd) ⟨[], upd_same, rfl, fun z h => absurd h (by simp), Bc.same (same_new nD), But.of_same (same_new nD)⟩ (fun j Hd hj hP => ?_) (fun Hd hP => ?_)
      · obtain ⟨r, hD, lr, hr, Bd, kd⟩ := hP
        refine ⟨rfl, _, rfl, b, rfl, Bd, fun z H6 hz B6 k6 => ⟨_, k6 _ _ neD hD, ?_, r ++ [z], ?_, ?_, ?_, box_ne B6 neD, but_new (kd.trans k6) nD⟩⟩
        · rw [List.length_map]
          exact szl (by omega)
        · rw [upd_same, List.map_append]
          rfl
        · rw [List.length_append, lr]
          rfl
        · intro x hx
          rcases List.mem_append.mp hx with h | h
          · exact hr x h
          · rw [List.mem_singleton] at h
            subst h
            exact hz
      · obtain ⟨r, hD, lr, hr, Bd, kd⟩ := hP
        have lr : r.length = m := by omega
        have hF2 := kd _ _ neF hF
        have ll := hus.length
        rw [List.length_map, hl] at ll
        refine ⟨F, _, _, rfl, rfl, hF2, szl (by omega), ?_⟩
        have nDF : D ≠ F := fun z => by rw [z, hF] at nD; cases nD
        have hDn : H D = none := kc.free neD nD
        have hus2 : DaAll (fun a => a = F ∨ H a ≠ none) (upd Hd F (.lst (us ++ [.ref D]))) us (rs.map rowL) :=
          DaAll.mono (fun _ z => z) (fun a xs n e => by rw [upd_ne (fun z => n (.inl z))]; exact kd _ _ (fun z => n (.inr (by rw [z]; exact box_some hB))) e) (fun a xs e => by
            have e2 : Hd a = some (.tup xs) := Bc.fz kd _ _ trivial e
            rw [upd_ne (fun z => by rw [z, hF2] at e2; cases e2)]
            exact e2) _ _ hus
        refine ⟨_, us ++ [.ref D], rs ++ [r], rfl, upd_same, by rw [List.length_append, hl]; rfl, fun x hx => ?_, ?_, box_ne Bd neF, ?_⟩
        · rcases List.mem_append.mp hx with h | h
          · exact hrs x h
          · rw [List.mem_singleton] at h
            subst h
            exact ⟨lr, hr⟩
        · rw [List.map_append]
          refine hus2.snoc (.lst (fun z => ?_) (by rw [upd_ne nDF]; exact hD) da_ints)
          rcases z with z | z
          · exact nDF z
          · exact z hDn
        · exact but_new (kc.trans kd) nF
    · obtain ⟨y4, us, rs, rfl, hF, hl, hrs, hus, Bc, kc⟩ := hP
      dsimp only
      refine ret_go ?_
      refine ⟨_, rfl, k F rs Hc hl hrs ?_ Bc kc⟩
      exact .lst (fun z => z nF) hF (DaAll.mono (fun _ z => .inr z) (fun _ _ _ e => e) (fun _ _ e => e) _ _ hus)

end
end K17
namespace K17
open PySem PySem.Spec PyProof.Rows L2 Rs
local macro_rules | `(tactic| walk_at "om") => `(tactic| first | omega | (dsimp only; omega))
local macro_rules | `(tactic| walk_at "side") => `(tactic| first | omega | (dsimp only; omega) | decide | (unfold CMul; omega) | (unfold CDiv; omega) | (unfold CPow; omega) | exact wide_div (b := 64) (by omega) (by omega) (by decide) (by decide))
local macro_rules | `(tactic| walk_at "hp") => `(tactic| first | assumption | exact upd_same)
local macro_rules | `(tactic| walk_at "sq") => `(tactic| first | assumption | exact SqL.of (by assumption) | exact SqL.of upd_same)
local macro_rules | `(tactic| walk_at "st") => `(tactic| first
  | refine ⟨_, rfl, ?_⟩
  | (refine ⟨_, _, rfl, rfl, And.intro ?side ?_⟩; (case side => walk_at "side"))
  | refine ⟨_, _, rfl, rfl, ?_⟩
  | (refine' ⟨_, _, _, _, rfl, rfl, SqL.of ?hp, ?atx, ?_⟩; (case hp => walk_at "hp"); (case atx => exact rfl))
  | (refine' ⟨_, _, _, _, rfl, rfl, ?hp, ?atx, ?_⟩; (case hp => walk_at "hp"); (case atx => exact rfl))
  | (refine' ⟨_, _, rfl, Or.inl ?sq, ?_⟩; (case sq => walk_at "sq"))
  | refine Or.inl ⟨_, rfl, ?_⟩
  | refine Or.inr ⟨_, rfl, ?_⟩)
local macro_rules | `(tactic| walk_at "evd") => `(tactic| first
  | exact evd_int
  | exact evd_str
  | exact evd_non
  | exact evd_bl
  | exact evd_nil
  | (refine evd_cons ?_ (fun _ => ?_) <;> walk_at "evd")
  | (refine evd_tup ?_ (Nat.le_of_ble_eq_true rfl); walk_at "evd"))

section
variable {P : Program} {w : World} {K : PySem.W.Frag} {mg : Str → Option Value} {base : Heap}
/-! a good slip is made -/
def numOk : V → Bool
  | .int i => decide (0 ≤ i)
  | _ => false
def spNumI : Sp := fun vs H Q _ => ∃ (i : Int), vs = [.int i] ∧ Q (.bl (decide (0 ≤ i))) H
theorem ok_numI (T : Txt K mg) : FnOk P w K mg base CX0 2 T.a_is_number T.d_is_number ["value"] spNumI := by
  have G_is_whole : FnOk P w K mg base CX0 1 T.a_is_whole T.d_is_whole ["value"] spWhole := ok_whole T
  refine T.F_is_number.ok sc_is_number (fun vs H Q E h => ?_) (fun cdv A outer s H vs Q E hr h => ?_)
  · obtain ⟨i, rfl, _⟩ := h
    rfl
  · obtain ⟨i, rfl, k⟩ := h
    have nd := sc_is_number.nd
    refine ⟨_, (pss_one (ps_ret (pe_and (pe_call G_is_whole (hr.mono (by first | decide | omega)) (by rfl) T.m_is_whole T.k_is_whole T.b_is_whole .nil pass0 (pa_cons (pv 0) pa_nil)) (pe_one (pe_cmpR op_ge (pv 0) pe_int (nomark _)))))), ?_⟩
    refine ⟨_, rfl, 0, .int i, rfl, trivial, _, rfl, ?_⟩
    exact ifT rfl ⟨_, rfl, _, _, rfl, rfl, k⟩
def kinds : List Str := ["again", "lost"]
def spSlipI (CS : Addr) : Sp := fun vs H Q _ => ∃ (x dx : Addr) (d : SD), vs = [.ref x, .str d.k, .int d.t, .int d.m, .int d.l] ∧ H x = some (.ins CS dx []) ∧ d.k ∈ kinds ∧ 0 ≤ d.t ∧ 0 ≤ d.m ∧ 0 ≤ d.l ∧ Q .non (upd H x (.ins CS dx (fldSl d)))
theorem ok_slipI (T : Txt K mg) : FnOk P w K mg base CX0 4 T.a_Slip___init__ T.d_Slip___init__ ["self", "kind", "turn", "machine", "lane"] (spSlipI T.c_Slip) := by
  have G_is_number : FnOk P w K mg base CX0 2 T.a_is_number T.d_is_number ["value"] spNumI := ok_numI T
  refine T.F_Slip___init__.ok sc_Slip___init__ (fun vs H Q E h => ?_) (fun cdv A outer s H vs Q E hr h => ?_)
  · obtain ⟨x, dx, d, rfl, _⟩ := h
    rfl
  · obtain ⟨x, dx, d, rfl, hx, h0, h1, h2, h3, kn⟩ := h
    have nd := sc_Slip___init__.nd
    refine ⟨_, (pss_cons (ps_if (pt_cmpR (op_notInSh hr.units) (pv 1) (pe_glob rfl T.m_KINDS (rel_ref _)) (by rfl)) (pss_one ps_never) pss_nil)
    (pss_cons (ps_if (pt_not (pt_val (pe_call G_is_number (hr.mono (by first | decide | omega)) (by rfl) T.m_is_number T.k_is_number T.b_is_number .nil pass0 (pa_cons (pv 2) pa_nil)))) (pss_one ps_never) pss_nil)
    (pss_cons (ps_if (pt_not (pt_val (pe_call G_is_number (hr.mono (by first | decide | omega)) (by rfl) T.m_is_number T.k_is_number T.b_is_number .nil pass0 (pa_cons (pv 3) pa_nil)))) (pss_one ps_never) pss_nil)
    (pss_cons (ps_if (pt_not (pt_val (pe_call G_is_number (hr.mono (by first | decide | omega)) (by rfl) T.m_is_number T.k_is_number T.b_is_number .nil pass0 (pa_cons (pv 4) pa_nil)))) (pss_one ps_never) pss_nil)
    (pss_cons (ps_fld (pv 0) (pv 1) rfl)
    (pss_cons (ps_fld (pv 0) (pv 2) rfl)
    (pss_cons (ps_fld (pv 0) (pv 3) rfl)
    (pss_one (ps_fld (pv 0) (pv 4) rfl))))))))), ?_⟩
    refine ⟨_, rfl, x, _, kinds, rfl, T.s_KINDS _, trivial, ?_⟩
    refine ⟨_, rfl, ?_⟩
    refine ifF (by simp [isOne_mem h0]) ?_
    refine ⟨_, rfl, d.t, rfl, _, rfl, ifF (by simp [h1]) ?_⟩
    refine ⟨_, rfl, d.m, rfl, _, rfl, ifF (by simp [h2]) ?_⟩
    refine ⟨_, rfl, d.l, rfl, _, rfl, ifF (by simp [h3]) ?_⟩
    refine ⟨_, rfl, _, rfl, x, T.c_Slip, dx, _, rfl, hx, T.C_Slip, T.n_Slip_kind, by decide, ?_⟩
    refine ⟨_, rfl, _, rfl, x, T.c_Slip, dx, _, rfl, upd_same, T.C_Slip, T.n_Slip_turn, by show 1 < 1000; decide, ?_⟩
    refine ⟨_, rfl, _, rfl, x, T.c_Slip, dx, _, rfl, upd_same, T.C_Slip, T.n_Slip_machine, by show 2 < 1000; decide, ?_⟩
    refine ⟨_, rfl, _, rfl, x, T.c_Slip, dx, _, rfl, upd_same, T.C_Slip, T.n_Slip_lane, by show 3 < 1000; decide, ?_⟩
    show Q .non _
    rw [upd_upd, upd_upd, upd_upd]
    exact kn
theorem TupE.fz {H H' : Hp} {a : Addr} {bs : List V} (h : TupE K H a bs) (k : Fz H H') : TupE K H' a bs := h.imp (k _ _ trivial) fun h => ⟨h.1, by
  obtain ⟨p, e, hp⟩ := RowT.fz (ns := []) ⟨a, rfl, h.2⟩ k
  cases e
  exact hp⟩
theorem PlanE.fz {CP CB CL CF : Addr} {H H' : Hp} {v : V} {ds : List BD} (h : PlanE K CP CB CL CF H v ds) (k : Fz H H') : PlanE K CP CB CL CF H' v ds := by
  obtain ⟨x, dx, tp, bs, d, e, hx, ht, a⟩ := h
  exact ⟨x, dx, tp, bs, d, e, k _ _ trivial hx, ht.fz k, a.mono fun v l h => h.fz k⟩
/-! how many rounds there are -/
theorem turns_len {n : Int} : ∀ {ds : List BD} {c : Nat}, (∀ d ∈ ds, (valP d n).toNat ≤ c) → (turnsP ds n).length ≤ ds.length * c
  | [], _, _ => Nat.zero_le _
  | d :: ds, c, h => by
    have a := h d (List.mem_cons_self ..)
    have b := turns_len (n := n) (ds := ds) (c := c) fun z hz => h z (List.mem_cons_of_mem _ hz)
    show (((List.range (valP d n).toNat).map fun (t : Nat) => (d, Int.ofNat t)) ++ turnsP ds n).length ≤ (ds.length + 1) * c
    rw [List.length_append, List.length_map, List.length_range, Nat.succ_mul]
    omega
theorem val_le {d : BD} {n : Int} (n0 : 0 ≤ n) (n1 : n ≤ 100) (h : d.t ≤ 5 ∧ d.q ≤ 100 ∧ 1 ≤ d.c) : (valP d n).toNat ≤ 600 := by
  have h1 : d.t * n ≤ 5 * n := Int.mul_le_mul_of_nonneg_right h.1 n0
  unfold valP
  rw [Int.fdiv_eq_ediv_of_nonneg _ (by omega)]
  have h2 : (d.t * n + d.q) / d.c ≤ 600 := by
    by_cases z : d.t * n + d.q ≤ 0
    · have : (d.t * n + d.q) / d.c ≤ 0 := by
        have := Int.ediv_le_ediv (by omega : (0 : Int) < d.c) z
        rw [Int.zero_ediv] at this
        exact this
      omega
    · have := Int.ediv_le_self (a := d.t * n + d.q) d.c (by omega)
      omega
  omega
theorem turns_few {n : Int} {ds : List BD} (n0 : 0 ≤ n) (n1 : n ≤ 100) (l : ds.length ≤ 10) (h : ∀ d ∈ ds, d.t ≤ 5 ∧ d.q ≤ 100 ∧ 1 ≤ d.c) : (turnsP ds n).length ≤ 10000 := by
  have a := turns_len (n := n) (ds := ds) (c := 600) fun d hd => val_le n0 n1 (h d hd)
  have b : ds.length * 600 ≤ 10 * 600 := Nat.mul_le_mul_right _ l
  omega

/-! what is due of drawn rows -/
theorem ints_rowL : ∀ {r : List Int}, intsD (r.map PyData.int) = some r
  | [] => rfl
  | i :: r => by
    show (intsD (r.map PyData.int)).map (i :: ·) = some (i :: r)
    rw [ints_rowL (r := r)]
    rfl
theorem ints_len : ∀ {xs : List PyData} {r : List Int}, intsD xs = some r → r.length = xs.length
  | [], r, e => by cases e; rfl
  | .int i :: xs, r, e => by
    have e : (intsD xs).map (i :: ·) = some r := e
    cases q : intsD xs with
    | none => rw [q] at e; cases e
    | some z =>
      rw [q] at e
      cases e
      rw [List.length_cons, List.length_cons, ints_len q]
  | .none :: _, _, e => by cases e
  | .bool _ :: _, _, e => by cases e
  | .str _ :: _, _, e => by cases e
  | .list _ :: _, _, e => by cases e
  | .tuple _ :: _, _, e => by cases e
  | .dict _ :: _, _, e => by cases e
theorem rowD_rowL {r : List Int} : rowD (rowL r) = some r := ints_rowL
theorem lenD_rowL {r : List Int} : lenD (rowL r) = r.length := by
  show (r.map PyData.int).length = r.length
  rw [List.length_map]
theorem due_of {d : PyData} {ds : List PyData} {m : Nat} (e : seqD d = some ds) (ne : ds ≠ []) (h : ∀ x ∈ ds, (rowD x).isSome = true ∧ lenD x = m) : dueD d = none := by
  have go : ∀ (ds : List PyData) (i : Nat), (∀ x ∈ ds, (rowD x).isSome = true ∧ lenD x = m) → dueFrom m i ds = none := by
    intro ds
    induction ds with
    | nil => intro i _; rfl
    | cons x ds ih =>
      intro i h
      obtain ⟨a, b⟩ := h x (List.mem_cons_self ..)
      show (if (rowD x).isSome && decide (lenD x = m) then dueFrom m (i + 1) ds else some i) = none
      rw [a, b, decide_eq_true rfl]
      exact ih _ fun y hy => h y (List.mem_cons_of_mem _ hy)
  unfold dueD
  rw [e]
  cases ds with
  | nil => exact absurd rfl ne
  | cons d0 ds =>
    show dueFrom (lenD d0) 0 (d0 :: ds) = none
    rw [(h d0 (List.mem_cons_self ..)).2]
    exact go _ _ h
theorem due_bad {d x y : PyData} {ds : List PyData} (e : seqD d = some ds) (hx : x ∈ ds) (hy : y ∈ ds) (bad : rowD x = none ∨ lenD x ≠ lenD y) : ∃ i, dueD d = some i := by
  cases q : dueD d with
  | some i => exact ⟨i, rfl⟩
  | none =>
    obtain ⟨es, rs, m, e2, mp, ri, hl⟩ := due_rows q
    rw [e] at e2
    cases e2
    rcases bad with b | b
    · have : rowD x ∈ ds.map rowD := List.mem_map.mpr ⟨x, hx, rfl⟩
      rw [mp, b] at this
      obtain ⟨r, _, h⟩ := List.mem_map.mp this
      cases h
    · exact absurd (by rw [hl x hx, hl y hy]) b
theorem rows_good {rs : List (List Int)} {m : Nat} (ne : rs ≠ []) (h : ∀ r ∈ rs, r.length = m) : ∀ x ∈ rs.map rowL, (rowD x).isSome = true ∧ lenD x = m := fun x hx => by
  obtain ⟨r, hr, rfl⟩ := List.mem_map.mp hx
  exact ⟨by rw [rowD_rowL]; rfl, by rw [lenD_rowL]; exact h r hr⟩
theorem wide_rows {d : PyData} {ds : List PyData} (e : seqD d = some ds) (l : ds.length ≤ 10000) (h : ∀ x ∈ ds, ∀ xs, seqD x = some xs → xs.length ≤ 10000) : Wide d := fun es ee => by
  rw [e] at ee
  cases ee
  exact ⟨l, h⟩
/-- the odd things that the law puts among rows of m numbers -/
def oddD (m : Nat) : List PyData := [.list (List.replicate (m + 1) (.int 1)), .none, .str (Str.ofString "1"), .int 7, .bool true, .list (List.replicate m PyData.none ++ [PyData.int 3]), .list [.list [.int 1]], .list (List.replicate m (.bool true) ++ [.str (Str.ofString "x")])]
theorem odd_bad {m : Nat} {x : PyData} (h : x ∈ oddD m) : (rowD x = none ∨ lenD x = m + 1) ∧ ∀ xs, seqD x = some xs → xs.length ≤ m + 1 := by
  unfold oddD at h
  simp only [List.mem_cons, List.not_mem_nil, or_false] at h
  have ll : ∀ (a : PyData) (n : Nat), (List.replicate n a).length = n := fun a n => List.length_replicate
  rcases h with h | h | h | h | h | h | h | h <;> subst h
  · exact ⟨.inr (ll _ _), fun xs e => by cases e; rw [ll]; exact Nat.le_refl _⟩
  · exact ⟨.inl rfl, fun xs e => by cases e⟩
  · exact ⟨.inl rfl, fun xs e => by cases e⟩
  · exact ⟨.inl rfl, fun xs e => by cases e⟩
  · exact ⟨.inl rfl, fun xs e => by cases e⟩
  · refine ⟨.inr ?_, fun xs e => ?_⟩
    · show (List.replicate m PyData.none ++ [PyData.int 3]).length = m + 1
      rw [List.length_append, ll]
      rfl
    · cases e
      rw [List.length_append, ll]
      exact Nat.le_refl _
  · exact ⟨.inl rfl, fun xs e => by cases e; show 1 ≤ m + 1; omega⟩
  · refine ⟨.inl ?_, fun xs e => ?_⟩
    · show intsD (List.replicate m (PyData.bool true) ++ [.str (Str.ofString "x")]) = none
      cases m with
      | zero => rfl
      | succ m => rfl
    · cases e
      rw [List.length_append, ll]
      exact Nat.le_refl _
theorem usual_few {ds : List BD} (h : ds ∈ usualD) : (∀ d ∈ ds, d.t ≤ 5 ∧ d.q ≤ 100 ∧ 1 ≤ d.c) ∧ ds.length ≤ 10 := by
  unfold usualD at h
  simp only [List.mem_cons, List.not_mem_nil, or_false] at h
  rcases h with h | h | h <;> subst h
  all_goals
    refine ⟨fun d hd => ?_, by decide⟩
    simp only [List.mem_cons, List.not_mem_nil, or_false] at hd
    rcases hd with h | h <;> subst h <;> exact ⟨by decide, by decide, by decide⟩
theorem DaAll.but {S S' : Addr → Prop} {b : Addr} {H H' : Hp} {vs : List V} {ds : List PyData} (h : DaAll S H vs ds) (B : Box H b) (k : But b H H') (sb : S b) (hS : ∀ a, S' a → S a) : DaAll S' H' vs ds :=
  DaAll.mono hS (fun a xs n e => k _ _ (fun z => n (by rw [z]; exact sb)) e) (fun a xs e => B.fz k _ _ trivial e) ds vs h
theorem DaAll.weak {S S' : Addr → Prop} {H : Hp} {vs : List V} {ds : List PyData} (h : DaAll S H vs ds) (hS : ∀ a, S' a → S a) : DaAll S' H vs ds := DaAll.mono hS (fun _ _ _ e => e) (fun _ _ e => e) ds vs h
theorem DaAll.cat {S : Addr → Prop} {H : Hp} : ∀ {vs : List V} {ds : List PyData} {us : List V} {es : List PyData}, DaAll S H vs ds → DaAll S H us es → DaAll S H (vs ++ us) (ds ++ es)
  | [], _, _, _, h, g => by cases h; exact g
  | _ :: _, _, _, _, h, g => by cases h with | cons a b => exact .cons a (b.cat g)
theorem DaAll.take {S : Addr → Prop} {H : Hp} : ∀ {vs : List V} {ds : List PyData} (q : Nat), DaAll S H vs ds → DaAll S H (vs.take q) (ds.take q)
  | [], _, q, h => by cases h; rw [List.take_nil, List.take_nil]; exact .nil
  | _ :: _, _, 0, h => by rw [List.take_zero, List.take_zero]; exact .nil
  | _ :: _, _, q + 1, h => by cases h with | cons a b => exact .cons a (b.take q)
theorem DaAll.drop {S : Addr → Prop} {H : Hp} : ∀ {vs : List V} {ds : List PyData} (q : Nat), DaAll S H vs ds → DaAll S H (vs.drop q) (ds.drop q)
  | [], _, q, h => by cases h; rw [List.drop_nil, List.drop_nil]; exact .nil
  | _ :: _, _, 0, h => h
  | _ :: _, _, q + 1, h => by cases h with | cons a b => exact b.drop q
theorem cutl_to {xs : List V} {q : Nat} (h : q ≤ xs.length) : cutV xs none (some (q : Int)) = xs.take q := by
  have z := cut_mid (xs := xs) (lo := 0) (hi := q) ⟨Nat.zero_le _, h⟩
  exact z
theorem cutl_from {xs : List V} {q : Nat} (h : q ≤ xs.length) : cutV xs (some (q : Int)) none = xs.drop q := by
  have z := cut_mid (xs := xs) (lo := q) (hi := xs.length) ⟨h, Nat.le_refl _⟩
  rw [List.take_length] at z
  rw [← z]
  unfold cutV
  have e1 : HT.sIx xs.length xs.length (some ((xs.length : Nat) : Int)) = HT.sIx xs.length xs.length none := by
    rw [HT.sIx_nat, Nat.min_self]
    rfl
  rw [e1]
def dueDt : Option Nat → PyData
  | none => .str (Str.ofString "played")
  | some i => .int (i : Int)
theorem due_repr {H : Hp} {o : Option Nat} {Q : VK} (h : ∀ i, o = some i → i ≤ 10000) (q : Q (.str (dueDt o).shown) H) : rRepr K [dueO o] H Q := by
  cases o with
  | none => exact ⟨_, _, rfl, .str _, rfl, rfl, by decide, by show (reprText (Str.ofString "played")).length ≤ sizeLine; exact szL (by decide +kernel), q⟩
  | some i =>
    have hi := h i rfl
    have mi : Mid (i : Int) := by unfold Mid; omega
    exact ⟨_, _, rfl, .int _, decide_eq_true (log_small mi), rfl, by show 0 ≤ 60; decide, szL (Nat.le_trans (nS_mid mi) (by decide)), q⟩
theorem due_le {d : PyData} {i : Nat} (wd : Wide d) (h : dueD d = some i) : i ≤ 10000 := by
  have go : ∀ (m : Nat) (ds : List PyData) (k : Nat), dueFrom m k ds = some i → i < k + ds.length := by
    intro m ds
    induction ds with
    | nil => intro k e; cases e
    | cons x ds ih =>
      intro k e
      have e : (if (rowD x).isSome && decide (lenD x = m) then dueFrom m (k + 1) ds else some k) = some i := e
      rw [List.length_cons]
      cases b : (rowD x).isSome && decide (lenD x = m) with
      | true =>
        rw [b] at e
        have := ih _ e
        omega
      | false =>
        rw [b] at e
        cases e
        omega
  unfold dueD at h
  cases es : seqD d with
  | none => rw [es] at h; cases h; omega
  | some ds =>
    rw [es] at h
    cases ds with
    | nil => cases h; omega
    | cons d0 ds =>
      have a := go _ _ _ h
      have b := (wd _ es).1
      omega
theorem dueO_played {o : Option Nat} : decide (dueO o = .str (Str.ofString "played")) = o.isNone := by
  cases o with
  | none => exact decide_eq_true rfl
  | some i => exact decide_eq_false fun z => by cases z
theorem scal_due {o : Option Nat} : scal (dueO o) (.str (Str.ofString "played")) = true := by
  cases o <;> rfl
theorem short_rows {d : PyData} {n m : Nat} {qs : List (List Int)} (sh : Short2 d) (h : ∀ xs, seqD d = some xs → xs.map rowD = qs.map some) (ri : RowsI n m qs) (nn : seqD d ≠ none) : n ≤ 3 ∧ m ≤ 3 := by
  cases es : seqD d with
  | none => exact absurd es nn
  | some xs =>
    have e := h xs es
    obtain ⟨l3, sh3⟩ := sh xs es
    have ll := congrArg List.length e
    rw [List.length_map, List.length_map] at ll
    have q1 := ri.many
    have q0 := ri.some_
    obtain ⟨r1, hr1⟩ := List.exists_mem_of_ne_nil qs (fun z => by rw [z] at q1; simp at q1; omega)
    have q2 := ri.long r1 hr1
    have hm : some r1 ∈ xs.map rowD := by rw [e]; exact List.mem_map.mpr ⟨r1, hr1, rfl⟩
    obtain ⟨x1, hx1, ex1⟩ := List.mem_map.mp hm
    unfold rowD at ex1
    cases e1 : seqD x1 with
    | none => rw [e1] at ex1; cases ex1
    | some ys =>
      rw [e1] at ex1
      have := sh3 x1 hx1 ys e1
      have lr : r1.length = ys.length := ints_len ex1
      exact ⟨by omega, by omega⟩
theorem due_seq {d : PyData} (e : dueD d = none) : seqD d ≠ none := fun z => by
  unfold dueD at e
  rw [z] at e
  cases e
def lastD : List PyData := [.list [], .tuple [], .none, .list [.list []], .list [.list [], .list [.int 1]]]
theorem last_short {d : PyData} (h : d ∈ lastD) : Short2 d := by
  unfold lastD at h
  simp only [List.mem_cons, List.not_mem_nil, or_false] at h
  rcases h with h | h | h | h | h <;> subst h
  · exact short_nilL
  · exact short_nilT
  · exact short_leaf rfl
  · exact short_list (by decide) fun x hx => by
      simp only [List.mem_cons, List.not_mem_nil, or_false] at hx
      subst hx
      exact short_nilL
  · exact short_list (by decide) fun x hx => by
      simp only [List.mem_cons, List.not_mem_nil, or_false] at hx
      rcases hx with hx | hx <;> subst hx
      · exact short_nilL
      · exact short_list (by decide) fun y hy => by
          simp only [List.mem_cons, List.not_mem_nil, or_false] at hy
          subst hy
          exact short_leaf rfl

/-! displays of data -/
section
variable {σ : L2.St} {S : Addr → Prop} {H : Hp}
theorem evd_leaf {v : V} {d : PyData} (h : ∀ H, Da S H v d) : EvP (tC v) σ H fun H v => Da S H v d := fun Q g => g _ _ (Same.refl _) (h _)
theorem rep_flat {α : Type} {c : α} : ∀ k : Nat, (List.replicate k [c]).flatten = List.replicate k c
  | 0 => rfl
  | k + 1 => by rw [List.replicate_succ, List.flatten_cons, rep_flat k]; rfl
theorem da_rep {c : V} {d : PyData} (h : Da S H c d) : ∀ k : Nat, DaAll S H (List.replicate k c) (List.replicate k d)
  | 0 => .nil
  | k + 1 => .cons h (da_rep h k)
theorem evd_rep {te : TE} {c : V} {d : PyData} {k : Nat} (hN : ∀ a, S a → H a ≠ none) (hc : ∀ H, Da S H c d) (hte : ∀ H Q, Q (.int (k : Int)) H → te σ H Q) (l : k ≤ 1000) : EvP (tOp rRep (tLst (tCons (tC c) tNil)) te) σ H fun H v => Da S H v (.list (List.replicate k d)) := fun Q g =>
  ⟨szL (Nat.le_of_ble_eq_true rfl), fun p np => hte _ _ ⟨p, _, [c], rfl, rfl, upd_same, by omega, by omega, szL (by rw [Int.toNat_natCast, List.length_singleton]; omega), fun q nq => by
    rw [Int.toNat_natCast, rep_flat]
    exact g _ _ ((same_new np).trans (same_new nq)) (.lst (new_not hN (same_new np) nq) upd_same (da_rep (hc _) k))⟩⟩
theorem evd_cat {ta : TE} {c : V} {d : PyData} {ds : List PyData} (hN : ∀ a, S a → H a ≠ none) (h : EvP ta σ H fun H v => Da S H v (.list ds)) (hc : ∀ H, Da S H c d) (l : ds.length ≤ 999) : EvP (tOp rCat ta (tLst (tCons (tC c) tNil))) σ H fun H v => Da S H v (.list (ds ++ [d])) := fun Q g =>
  h _ fun v H1 s1 hv => ⟨szL (Nat.le_of_ble_eq_true rfl), fun p np => by
    cases hv with
    | lst n ha all =>
      rename_i a xs
      have s2 := same_new (o := .lst [c]) np
      have ll := all.length
      exact ⟨a, p, xs, [c], rfl, rfl, s2 _ _ ha, upd_same, szL (by rw [List.length_singleton]; omega), fun q nq => g _ _ ((s1.trans s2).trans (same_new nq)) (.lst (new_not hN (s1.trans s2) nq) upd_same (((all.same s2).same (same_new nq)).snoc (hc _)))⟩⟩
theorem evd_list {ta : TA} {ds : List PyData} (hN : ∀ a, S a → H a ≠ none) (h : EvL ta σ H (Da S) ds) (l : ds.length ≤ 1000) : EvP (tLst ta) σ H fun H v => Da S H v (.list ds) := fun Q g =>
  h _ fun vs H1 s1 rs => by
    have all : ∀ {vs : List V} {ds : List PyData}, AllR (Da S H1) vs ds → DaAll S H1 vs ds := fun h => by
      induction h with
      | nil => exact .nil
      | cons z _ ih => exact .cons z ih
    exact ⟨szL (by rw [rs.length]; exact l), fun L nL => g _ _ (s1.trans (same_new nL)) (.lst (new_not hN s1 nL) upd_same ((all rs).same (same_new nL)))⟩
theorem da_mono (H H' : Hp) (v : V) (d : PyData) (s : Same H H') (h : Da S H v d) : Da S H' v d := h.same s
end
section
variable {σ : L2.St} {S : Addr → Prop} {H : Hp}
theorem evd_tuple {ta : TA} {ds : List PyData} (h : EvL ta σ H (Da S) ds) (l : ds.length ≤ 1000) : EvP (tTup ta) σ H fun H v => Da S H v (.tuple ds) := fun Q g =>
  h _ fun vs H1 s1 rs => by
    have all : ∀ {vs : List V} {ds : List PyData}, AllR (Da S H1) vs ds → DaAll S H1 vs ds := fun h => by
      induction h with
      | nil => exact .nil
      | cons z _ ih => exact .cons z ih
    exact ⟨szL (by rw [rs.length]; exact l), fun L nL => g _ _ (s1.trans (same_new nL)) (.tup upd_same ((all rs).same (same_new nL)))⟩
end
theorem lcT_go {te el : TE} {g : TG} {tt : TT} {vs : List Nat} {σ : L2.St} {H : Hp} {Q : VK} {R : Hp → V → Prop} (ev : EvP te σ H R) (k : ∀ v H1, Same H H1 → R H1 v → tLc (iTup K (tC v)) g tt el vs σ H1 Q) : tLc (iTup K te) g tt el vs σ H Q := ev _ fun v H1 s r => k v H1 s r

end
end K17
namespace K17
open PySem PySem.Spec PyProof.Rows L2 Rs
local macro_rules | `(tactic| walk_at "om") => `(tactic| first | omega | (dsimp only; omega))
local macro_rules | `(tactic| walk_at "side") => `(tactic| first | omega | (dsimp only; omega) | decide | (unfold CMul; omega) | (unfold CDiv; omega) | (unfold CPow; omega) | exact wide_div (b := 64) (by omega) (by omega) (by decide) (by decide))
local macro_rules | `(tactic| walk_at "hp") => `(tactic| first | assumption | exact upd_same)
local macro_rules | `(tactic| walk_at "sq") => `(tactic| first | assumption | exact SqL.of (by assumption) | exact SqL.of upd_same)
local macro_rules | `(tactic| walk_at "st") => `(tactic| first
  | refine ⟨_, rfl, ?_⟩
  | (refine ⟨_, _, rfl, rfl, And.intro ?side ?_⟩; (case side => walk_at "side"))
  | refine ⟨_, _, rfl, rfl, ?_⟩
  | (refine' ⟨_, _, _, _, rfl, rfl, SqL.of ?hp, ?atx, ?_⟩; (case hp => walk_at "hp"); (case atx => exact rfl))
  | (refine' ⟨_, _, _, _, rfl, rfl, ?hp, ?atx, ?_⟩; (case hp => walk_at "hp"); (case atx => exact rfl))
  | (refine' ⟨_, _, rfl, Or.inl ?sq, ?_⟩; (case sq => walk_at "sq"))
  | refine Or.inl ⟨_, rfl, ?_⟩
  | refine Or.inr ⟨_, rfl, ?_⟩)
local macro_rules | `(tactic| walk_at "evd") => `(tactic| first
  | exact evd_int
  | exact evd_str
  | exact evd_non
  | exact evd_bl
  | exact evd_nil
  | (refine evd_cons ?_ (fun _ => ?_) <;> walk_at "evd")
  | (refine evd_tup ?_ (Nat.le_of_ble_eq_true rfl); walk_at "evd"))

section
variable {P : Program} {w : World} {K : PySem.W.Frag} {mg : Str → Option Value} {base : Heap}
def spLaw (K : PySem.W.Frag) : Sp := fun vs H Q _ => ∃ (a : Addr) (ns : List Int), vs = [.ref a] ∧ SqL K H a (ns.map V.int) ∧ ns.length ≤ 63 ∧ ∀ H', Q (.bl true) H'
theorem ok_law (T : Txt K mg) (hST : ∀ l : LD, LI l → KDct K w T.A_STEPS l.w (.int (stepP l))) (hCM : ∀ d : SD, KindOk d → KDct K w T.A_COMINGS d.k (.int (comeV d.k : Int))) : At callerA P w K mg base CX0 14 T.a_law ["_law_script"] T.d_law (spLaw K) := by
  have G__law_take : FnOk P w K mg base CX0 1 T.a__law_take T.d__law_take ["_law_box_here", "_law_many"] spTake := ok_take T
  have G__law_pick : FnOk P w K mg base CX0 2 T.a__law_pick T.d__law_pick ["_law_box_here", "_law_items"] spPick := ok_pick T
  have G__law_box : FnOk P w K mg base CX0 1 T.a__law_box T.d__law_box ["_law_script", "_law_k", "_law_own"] (spBox K) := ok_box T
  have G__law_usual : FnOk P w K mg base CX0 2 T.a__law_usual T.d__law_usual ["_law_box_here"] spUsual := ok_usual T
  have G__law_plan_of : FnOk P w K mg base CX0 9 T.a__law_plan_of T.d__law_plan_of ["_law_drawn"] (spPlanOfD K T.c_Plan T.c_Block T.c_Lane T.c_Form) := ok_plan_ofD T
  have G__law_rows : FnOk P w K mg base CX0 4 T.a__law_rows T.d__law_rows ["_law_box_here", "_law_n", "_law_size"] spRows := ok_rows T
  have G__law_any : FnOk P w K mg base CX0 10 T.a__law_any T.d__law_any ["_law_box_here", "_law_deep"] (spAny 7) := ok_any T 7
  have G__law_due : FnOk P w K mg base CX0 1 T.a__law_due T.d__law_due ["_law_value"] (spDueL K) := ok_due T
  have G__law_refused : FnOk P w K mg base CX0 7 T.a__law_refused T.d__law_refused ["_law_made", "_law_value", "_law_slips"] (spRefd K T.c_Plan T.c_Block T.c_Lane T.c_Form) := ok_refd T hST hCM
  have GI_Slip : FnOk P w K mg base CX0 4 T.a_Slip___init__ T.d_Slip___init__ ["self", "kind", "turn", "machine", "lane"] (spSlipI T.c_Slip) := ok_slipI T
  have GI_Plan : FnOk P w K mg base CX0 2 T.a_Plan___init__ T.d_Plan___init__ ["self", "blocks"] (spPlanS K T.c_Plan T.c_Block) := ok_planS T
  obtain ⟨ds0, V0_Plan, B0_Plan⟩ := T.D_Plan___init__
  refine fun_at0 T.F_law sc_law (fun vs H Q E h => ?_) (fun cdv outer s H vs Q E hr h => ?_)
  · obtain ⟨a, ns, rfl, _⟩ := h
    rfl
  · obtain ⟨a, ns, rfl, hS, hlen, k⟩ := h
    have nd := sc_law.nd
    have hgd : (callerA.deeper (envOfC "law" (defScope s_law) s.heap.objs.size T.a_law cdv)).guards = some [] := guards_deeper rfl
    refine ⟨_, (pss_cons (ps_for PassesOwn.never rfl (pi_range1 (by rfl) T.z_range (pa_cons (pe_callB (call_max2 rfl) (by rfl) T.z_max (by decide +kernel) (pa_cons pe_int (pa_cons (pe_callB (call_min2 rfl) (by rfl) T.z_min (by decide +kernel) (pa_cons pe_int (pa_cons (pe_callB call_len_seq (by rfl) T.z_len (by decide +kernel) (pa_cons (pv 0) pa_nil)) pa_nil))) pa_nil))) pa_nil)) (pg_name (i := 1) nd rfl (Or.inl rfl))
    (pss_cons (ps_set (i := 2) nd rfl (Or.inl rfl) (pe_call G__law_box (hr.mono (by first | decide | omega)) (by rfl) T.m__law_box T.k__law_box T.b__law_box .nil pass0 (pa_cons (pv 0) (pa_cons (pv 1) (pa_cons pe_int pa_nil)))))
    (pss_cons (ps_par (i := 3) (j := 4) (by rfl) nd rfl rfl (by decide) rfl rfl (pa_cons (pe_call G__law_plan_of (hr.mono (by first | decide | omega)) (by rfl) T.m__law_plan_of T.k__law_plan_of T.b__law_plan_of .nil pass0 (pa_cons (pe_call G__law_usual (hr.mono (by first | decide | omega)) (by rfl) T.m__law_usual T.k__law_usual T.b__law_usual .nil pass0 (pa_cons (pv 2) pa_nil)) pa_nil)) (pa_cons (pe_lst (pa_cons (pe_make T.M_Slip GI_Slip (hr.mono (by first | decide | omega)) (by rfl) T.m_Slip T.b_Slip___init__ .nil pass0 (pa_cons pe_str (pa_cons pe_int (pa_cons pe_int (pa_cons pe_int pa_nil))))) pa_nil)) pa_nil)) (by rfl))
    (pss_one (ps_for PassesOwn.never rfl (pi_range1 (by rfl) T.z_range (pa_cons pe_int pa_nil)) (pg_name (i := 5) nd rfl (Or.inl rfl))
    (pss_cons (ps_set (i := 6) nd rfl (Or.inl rfl) (pe_call G__law_rows (hr.mono (by first | decide | omega)) (by rfl) T.m__law_rows T.k__law_rows T.b__law_rows .nil pass0 (pa_cons (pv 2) (pa_cons (pe_op op_add pe_int (pe_call G__law_take (hr.mono (by first | decide | omega)) (by rfl) T.m__law_take T.k__law_take T.b__law_take .nil pass0 (pa_cons (pv 2) (pa_cons pe_int pa_nil)))) (pa_cons (pe_call G__law_take (hr.mono (by first | decide | omega)) (by rfl) T.m__law_take T.k__law_take T.b__law_take .nil pass0 (pa_cons (pv 2) (pa_cons pe_int pa_nil))) pa_nil)))))
    (pss_cons (ps_if (PW.pt (pw_or (pt_cmpR op_ne (pe_call G__law_refused (hr.mono (by first | decide | omega)) (by rfl) T.m__law_refused T.k__law_refused T.b__law_refused .nil pass0 (pa_cons (pv 3) (pa_cons (pv 6) (pa_cons (pe_tup pa_nil) pa_nil)))) pe_str (nomark _)) (pw_or1 (pt_cmpR op_ne (pe_call G__law_refused (hr.mono (by first | decide | omega)) (by rfl) T.m__law_refused T.k__law_refused T.b__law_refused .nil pass0 (pa_cons (pv 3) (pa_cons (pe_callTy call_tuple_of (by rfl) T.z_tuple (by decide +kernel) (pa_cons (pv 6) pa_nil)) (pa_cons (pe_lst pa_nil) pa_nil)))) pe_str (nomark _))))) (pss_one (ps_ret pe_bl)) pss_nil)
    (pss_cons (ps_par (i := 7) (j := 8) (by rfl) nd rfl rfl (by decide) rfl rfl (pa_cons (pe_call G__law_take (hr.mono (by first | decide | omega)) (by rfl) T.m__law_take T.k__law_take T.b__law_take .nil pass0 (pa_cons (pv 2) (pa_cons (pe_op op_add (pe_callB call_len_seq (by rfl) T.z_len (by decide +kernel) (pa_cons (pv 6) pa_nil)) pe_int) pa_nil))) (pa_cons (pe_callB call_len_seq (by rfl) T.z_len (by decide +kernel) (pa_cons (pe_ix ix_list (pv 6) pe_int (fun _ _ => rfl)) pa_nil)) pa_nil)) (by rfl))
    (pss_cons (ps_set (i := 9) nd rfl (Or.inl rfl) (pe_lst (pa_cons (pe_op op_rep (pe_lst (pa_cons pe_int pa_nil)) (pe_op op_add (pv 8) pe_int)) (pa_cons pe_non (pa_cons pe_str (pa_cons pe_int (pa_cons pe_bl (pa_cons (pe_op op_cat (pe_op op_rep (pe_lst (pa_cons pe_non pa_nil)) (pv 8)) (pe_lst (pa_cons pe_int pa_nil))) (pa_cons (pe_lst (pa_cons (pe_lst (pa_cons pe_int pa_nil)) pa_nil)) (pa_cons (pe_op op_cat (pe_op op_rep (pe_lst (pa_cons pe_bl pa_nil)) (pv 8)) (pe_lst (pa_cons pe_str pa_nil))) pa_nil))))))))))
    (pss_cons (ps_set (i := 10) nd rfl (Or.inl rfl) (pe_op op_cat (pe_op op_cat (pe_slice sl_list (pv 6) po_none (po_some (pv 7))) (pe_lst (pa_cons (pe_call G__law_pick (hr.mono (by first | decide | omega)) (by rfl) T.m__law_pick T.k__law_pick T.b__law_pick .nil pass0 (pa_cons (pv 2) (pa_cons (pv 9) pa_nil))) pa_nil))) (pe_slice sl_list (pv 6) (po_some (pv 7)) po_none)))
    (pss_cons (ps_if (PW.pt (pw_or (pt_cmpR op_ne (pe_callB (call_reprD hr hgd) (by rfl) T.z_repr (by decide +kernel) (pa_cons (pe_call G__law_refused (hr.mono (by first | decide | omega)) (by rfl) T.m__law_refused T.k__law_refused T.b__law_refused .nil pass0 (pa_cons (pv 3) (pa_cons (pv 10) (pa_cons (pv 4) pa_nil)))) pa_nil)) (pe_callB (call_reprD hr hgd) (by rfl) T.z_repr (by decide +kernel) (pa_cons (pe_call G__law_due (hr.mono (by first | decide | omega)) (by rfl) T.m__law_due T.k__law_due T.b__law_due .nil pass0 (pa_cons (pv 10) pa_nil)) pa_nil)) (nomark _)) (pw_or1 (pt_cmpR op_eq (pe_call G__law_due (hr.mono (by first | decide | omega)) (by rfl) T.m__law_due T.k__law_due T.b__law_due .nil pass0 (pa_cons (pv 10) pa_nil)) pe_str (nomark _))))) (pss_one (ps_ret pe_bl)) pss_nil)
    (pss_cons (ps_set (i := 11) nd rfl (Or.inl rfl) (pe_call G__law_any (hr.mono (by first | decide | omega)) (by rfl) T.m__law_any T.k__law_any T.b__law_any .nil pass0 (pa_cons (pv 2) (pa_cons pe_int pa_nil))))
    (pss_cons (ps_if (PW.pt (pw_and (pt_cmpR op_ne (pe_call G__law_due (hr.mono (by first | decide | omega)) (by rfl) T.m__law_due T.k__law_due T.b__law_due .nil pass0 (pa_cons (pv 11) pa_nil)) pe_str (nomark _)) (pw_and1 (pt_cmpR op_ne (pe_callB (call_reprD hr hgd) (by rfl) T.z_repr (by decide +kernel) (pa_cons (pe_call G__law_refused (hr.mono (by first | decide | omega)) (by rfl) T.m__law_refused T.k__law_refused T.b__law_refused .nil pass0 (pa_cons (pv 3) (pa_cons (pv 11) (pa_cons (pv 4) pa_nil)))) pa_nil)) (pe_callB (call_reprD hr hgd) (by rfl) T.z_repr (by decide +kernel) (pa_cons (pe_call G__law_due (hr.mono (by first | decide | omega)) (by rfl) T.m__law_due T.k__law_due T.b__law_due .nil pass0 (pa_cons (pv 11) pa_nil)) pa_nil)) (nomark _))))) (pss_one (ps_ret pe_bl)) pss_nil)
    (pss_one (ps_if (pt_cmpR op_ne (pe_callB (call_reprD hr hgd) (by rfl) T.z_repr (by decide +kernel) (pa_cons (pe_call G__law_refused (hr.mono (by first | decide | omega)) (by rfl) T.m__law_refused T.k__law_refused T.b__law_refused .nil pass0 (pa_cons (pv 3) (pa_cons (pv 11) (pa_cons (pe_tup pa_nil) pa_nil)))) pa_nil)) (pe_callB (call_reprD hr hgd) (by rfl) T.z_repr (by decide +kernel) (pa_cons (pe_call G__law_due (hr.mono (by first | decide | omega)) (by rfl) T.m__law_due T.k__law_due T.b__law_due .nil pass0 (pa_cons (pv 11) pa_nil)) pa_nil)) (nomark _)) (pss_one (ps_ret pe_bl)) pss_nil)))))))))))))))
    (pss_one (ps_ret (pe_cmpR (op_eqD hr.units) (pe_lc (own := [("_law_value", 11)]) (g := (gName 11)) (by rfl) nd (pi_tup (pe_tup (pa_cons (pe_lst pa_nil) (pa_cons (pe_tup pa_nil) (pa_cons pe_non (pa_cons (pe_lst (pa_cons (pe_lst pa_nil) pa_nil)) (pa_cons (pe_lst (pa_cons (pe_lst pa_nil) (pa_cons (pe_lst (pa_cons pe_int pa_nil)) pa_nil))) pa_nil))))))) (blkOk_by (N := ["_law_script", "_law_k", "_law_box_here", "_law_made", "_law_far", "_law_turn", "_law_rows_here", "_law_at", "_law_size", "_law_odd", "_law_bent", "_law_value"]) (sc := defScope s_law) (own := [("_law_value", 11)]) (by decide +kernel)) (fun _ _ _ _ _ => by exact (pg_name (i := 11) nd rfl (Or.inl rfl))) (fun _ _ _ _ _ => by exact pts_nil) (fun _ _ _ _ _ => by exact (pe_call G__law_refused (hr.mono (by first | decide | omega)) (by rfl) T.m__law_refused T.k__law_refused T.b__law_refused .nil pass0 (pa_cons (pe_make0 T.M_Plan GI_Plan (hr.mono (by first | decide | omega)) (by rfl) T.m_Plan B0_Plan V0_Plan pass0) (pa_cons (pv 11) (pa_cons (pe_tup pa_nil) pa_nil)))))) (pe_lst (pa_cons pe_int (pa_cons pe_int (pa_cons pe_int (pa_cons pe_str (pa_cons pe_int pa_nil)))))) (nomark _))))), ?_⟩
    refine ⟨_, rfl, _, _, rfl, .inl hS, _, _, rfl, _, _, rfl, _, rfl, ?_, ?_, ?_⟩
    · split <;> split <;> omega
    · split <;> split <;> omega
    refine for_range (fun i σ H2 => ∃ y1 y2 y3 y4 y5 y6 y7 y8 y9 y10 y11, σ = [some (.ref a), y1, y2, y3, y4, y5, y6, y7, y8, y9, y10, y11] ∧ Same H H2)
      ⟨none, none, none, none, none, none, none, none, none, none, none, rfl, Same.refl _⟩ (fun i σ H2 hi hP => ?_) (fun σ H2 hP => ?_)
    · obtain ⟨y1, y2, y3, y4, y5, y6, y7, y8, y9, y10, y11, rfl, s2⟩ := hP
      have i4 : i < 1000 := by
        revert hi
        split <;> split <;> omega
      refine asg_go ?_
      refine ⟨_, rfl, _, rfl, a, ns, _, 17, rfl, s2.seq hS, by omega, by omega, by omega, by omega, fun H3 b s3 nb B3 => ?_⟩
      dsimp only [gName]
      have s03 := s2.trans s3
      have nb0 : H b = none := s2.free nb
      refine ⟨_, rfl, b, rfl, B3, fun F ds H4 hds hF B4 k4 => ?_⟩
      obtain ⟨fds, lds⟩ := usual_few hds
      obtain ⟨bs, hFl, nF, ab⟩ := id hF
      have nb3 : H3 b ≠ none := box_some B3
      refine ⟨F, b, bs, ds, rfl, hFl, ab.mono fun v d h => h.1.v nb3, lds, fun u H5 s5 hu => ?_⟩
      have bis : ∀ d ∈ ds, BI d := di_all (ab.mono fun v d h => h.1.v nb3)
      intro x dx nx ndx nex
      have sx := same_made (o1 := .own x) (o2 := .ins T.c_Slip dx []) (o3 := .ins T.c_Slip dx (fldSl ⟨Str.ofString "lost", 999, 999, 9⟩)) nx ndx
      refine ⟨x, dx, ⟨Str.ofString "lost", 999, 999, 9⟩, rfl, upd_same, by decide, by decide, by decide, by decide, rfl, ?_⟩
      generalize upd (upd (upd H5 dx (.own x)) x (.ins T.c_Slip dx [])) x (.ins T.c_Slip dx (fldSl ⟨Str.ofString "lost", 999, 999, 9⟩)) = H6 at sx ⊢
      refine ⟨szL (Nat.le_of_ble_eq_true rfl), fun fa nfa => ?_⟩
      have s7 := same_new (o := .lst [.ref x]) nfa
      generalize upd H6 fa (.lst [.ref x]) = H7 at s7 ⊢
      have s57 := sx.trans s7
      have s47 := s5.trans s57
      have B7 := B4.same s47
      have k7 : But b H3 H7 := k4.trans (But.of_same s47)
      have hu7 := hu.same s57
      refine ⟨_, _, rfl, ?_⟩
      dsimp only
      refine ⟨8, rfl, by decide, by decide, for_range (fun j σ Hc => ∃ y5 y6 y7 y8 y9 y10 y11, σ = [some (.ref a), some (.int (0 + ((i : Nat) : Int))), some (.ref b), some u, some (.ref fa), y5, y6, y7, y8, y9, y10, y11] ∧ Box Hc b ∧ But b H3 Hc ∧ PlanE K T.c_Plan T.c_Block T.c_Lane T.c_Form Hc u ds)
        ⟨y5, y6, y7, y8, y9, y10, y11, rfl, B7, k7, hu7⟩ (fun j σ Hc hj hP => ?_) (fun σ Hc hP => ?_)⟩
      · obtain ⟨y5, y6, y7, y8, y9, y10, y11, rfl, Bc, kc, huc⟩ := hP
        refine asg_go ?_
        refine ⟨_, rfl, _, rfl, b, 6, rfl, Bc, by decide, by decide, fun n0 H8 n00 n01 B8 k8 => ?_⟩
        refine ⟨_, _, rfl, rfl, _, rfl, b, 7, rfl, B8, by decide, by decide, fun m0 H9 m00 m01 B9 k9 => ?_⟩
        obtain ⟨n, rfl⟩ := Int.eq_ofNat_of_zero_le n00
        obtain ⟨m, rfl⟩ := Int.eq_ofNat_of_zero_le m00
        refine ⟨b, 1 + n, m, by rw [Int.natCast_add]; rfl, B9, by omega, by omega, fun F1 rs H10 lrs hrs hR B10 k10 => ?_⟩
        have kc10 := kc.trans ((k8.trans k9).trans k10)
        have hu10 : PlanE K T.c_Plan T.c_Block T.c_Lane T.c_Form H10 u ds := huc.fz (Bc.fz ((k8.trans k9).trans k10))
        have rne : rs ≠ [] := fun z => by rw [z] at lrs; simp at lrs; omega
        have good := rows_good rne fun r hr => (hrs r hr).1
        have mne : rs.map rowL ≠ [] := fun z => rne (List.map_eq_nil_iff.mp z)
        have due1 : dueD (rowsL rs) = none := due_of rfl mne good
        have due2 : dueD (.tuple (rs.map rowL)) = none := due_of rfl mne good
        have lm : (rs.map rowL).length = 1 + n := by rw [List.length_map, lrs]
        have small : ∀ x ∈ rs.map rowL, ∀ xs, seqD x = some xs → xs.length ≤ 10000 := fun x hx xs ex => by
          obtain ⟨r, hr, rfl⟩ := List.mem_map.mp hx
          cases ex
          rw [List.length_map, (hrs r hr).1]
          omega
        have wd1 : Wide (rowsL rs) := wide_rows rfl (by omega) small
        have wd2 : Wide (.tuple (rs.map rowL)) := wide_rows rfl (by omega) small
        have bnd : ∀ d : PyData, seqD d = some (rs.map rowL) → ∀ n' m' : Nat, ∀ qs, (∀ xs, seqD d = some xs → xs.map rowD = qs.map some) → RowsI n' m' qs → n' ≤ 1000 ∧ m' ≤ 1000 ∧ (turnsP ds n').length ≤ 10000 := fun d ed n' m' qs h ri => by
          have e := h _ ed
          rw [List.map_map] at e
          have e2 : rs.map some = qs.map some := by
            rw [← e]
            exact List.map_congr_left fun r _ => rowD_rowL.symm
          have e3 : rs = qs := by
            have inj : ∀ (xs ys : List (List Int)), xs.map some = ys.map some → xs = ys := fun xs ys h => List.map_inj_right (fun _ _ h => by injection h) |>.mp h
            exact inj _ _ e2
          subst e3
          have q1 := ri.many
          obtain ⟨r0, hr0⟩ := List.exists_mem_of_ne_nil _ rne
          have q2 := ri.long r0 hr0
          have q3 := (hrs r0 hr0).1
          exact ⟨by omega, by omega, turns_few (by omega) (by omega) lds fds⟩
        dsimp only [gName]
        refine seqif_go (or_go (tst_go ?_))
        refine ⟨_, rfl, _, rfl, szL (Nat.le_of_ble_eq_true rfl), fun t0 nt0 => ?_⟩
        have st := same_new (o := .tup []) nt0
        refine ⟨fun a => H9 a ≠ none, u, .ref F1, t0, ds, rowsL rs, rfl, hu10.same st, bis, hR.same st, wd1, fun _ => ⟨.inr (SqT.of upd_same), bnd _ rfl⟩, fun H11 s11 => ?_⟩
        rw [due1]
        refine ⟨rfl, _, rfl, ifF (by decide) ?_⟩
        have s011 := st.trans s11
        generalize upd H10 t0 (.tup []) = Hx at *
        obtain ⟨us, nF1, hF1, hall⟩ : ∃ us, ¬ (H9 F1 ≠ none) ∧ H10 F1 = some (.lst us) ∧ DaAll (fun a => H9 a ≠ none) H10 us (rs.map rowL) := by
          unfold rowsL at hR
          cases hR with
          | lst a b c => exact ⟨_, a, b, c⟩
        have lu : us.length = 1 + n := by rw [hall.length, lm]
        refine ⟨_, rfl, _, rfl, F1, us, rfl, .inl ⟨SqL.of (s011 _ _ hF1), fun l nl => ?_⟩⟩
        have s12 := same_new (o := .tup us) nl
        have hl12 : upd H11 l (.tup us) l = some (.tup us) := upd_same
        generalize upd H11 l (.tup us) = H12 at s12 hl12 ⊢
        refine ⟨szL (Nat.le_of_ble_eq_true rfl), fun t1 nt1 => ?_⟩
        have s13 := same_new (o := .lst []) nt1
        have ht13 : upd H12 t1 (.lst []) t1 = some (.lst []) := upd_same
        generalize upd H12 t1 (.lst []) = H13 at s13 ht13 ⊢
        have s013 := (s011.trans s12).trans s13
        refine ⟨fun a => H9 a ≠ none, u, .ref l, t1, ds, .tuple (rs.map rowL), rfl, hu10.same s013, bis, .tup (s13 _ _ hl12) (hall.same s013), wd2, fun _ => ⟨.inl (SqL.of ht13), bnd _ rfl⟩, fun H14 s14 => ?_⟩
        rw [due2]
        refine ⟨rfl, _, rfl, ifF (by decide) ?_⟩
        dsimp only [tNext]
        have s014 := s013.trans s14
        have B14 := B10.same s014
        have hF14 := s014 _ _ hF1
        obtain ⟨v0, hv0⟩ : ∃ v0, us[0]? = some v0 := ⟨_, List.getElem?_eq_getElem (by omega)⟩
        obtain ⟨d0, ed0, hd0⟩ := hall.get hv0
        obtain ⟨r0, er0, hr0⟩ : ∃ r0, rs[0]? = some r0 ∧ d0 = rowL r0 := by
          rw [List.getElem?_map] at ed0
          cases e : rs[0]? with
          | none => rw [e] at ed0; cases ed0
          | some r => rw [e] at ed0; cases ed0; exact ⟨r, rfl, rfl⟩
        subst hr0
        have lr0 := (hrs r0 (List.mem_of_getElem? er0)).1
        obtain ⟨p0, hp0⟩ : ∃ p0, v0 = .ref p0 ∧ ¬ (H9 p0 ≠ none) ∧ ∃ xs, H10 p0 = some (.lst xs) ∧ xs.length = m := by
          unfold rowL at hd0
          cases hd0 with
          | lst a b c => exact ⟨_, rfl, a, _, b, by rw [c.length, List.length_map, lr0]⟩
        obtain ⟨rfl, np0, xs0, hx0, lx0⟩ := hp0
        have neF1 : F1 ≠ b := fun z => by
          rw [z] at nF1
          exact nF1 (box_some B9)
        refine ⟨_, rfl, _, rfl, F1, us, rfl, .inl (SqL.of hF14), _, _, rfl, rfl, b, _, rfl, B14, by omega, by omega, fun at0 H15 at00 at01 B15 k15 => ?_⟩
        have hF15 := k15 _ _ neF1 hF14
        have hx15 : H15 p0 = some (.lst xs0) := k15 _ _ (fun z => by
          rw [z] at np0
          exact np0 (box_some B9)) (s014 _ _ hx0)
        refine ⟨_, rfl, _, _, _, .ref p0, rfl, rfl, SqL.of hF15, atI_nat (j := 0) hv0, p0, xs0, rfl, .inl (SqL.of hx15), ?_⟩
        rw [lx0]
        refine ⟨_, _, rfl, ?_⟩
        dsimp only
        refine asg_go ?_
        have hN : ∀ H : Hp, Same H15 H → ∀ a, (fun a => H15 a ≠ none) a → H a ≠ none := fun H s => Ns s fun a h => h
        refine evd_list (S := fun a => H15 a ≠ none) (ds := oddD m) (hN _ (Same.refl _)) ?_ (by show 8 ≤ 1000; decide) _ fun v9 H16 s16 hodd => ?_
        · unfold oddD
          refine evl_cons da_mono (evd_rep (hN _ (Same.refl _)) (fun _ => .int 1) (fun H Q q => ⟨_, rfl, _, _, rfl, rfl, q⟩) (by omega)) fun Ha sa => ?_
          refine evl_cons da_mono (evd_leaf fun _ => .non) fun Hb sb => ?_
          refine evl_cons da_mono (evd_leaf fun _ => .str _) fun Hc sc => ?_
          refine evl_cons da_mono (evd_leaf fun _ => .int _) fun Hd sd => ?_
          refine evl_cons da_mono (evd_leaf fun _ => .bl _) fun He se => ?_
          have sae := (((sa.trans sb).trans sc).trans sd).trans se
          refine evl_cons da_mono (evd_cat (hN _ sae) (evd_rep (hN _ sae) (fun _ => .non) (fun H Q q => ⟨_, rfl, q⟩) (by omega)) (fun _ => .int 3) (by rw [List.length_replicate]; omega)) fun Hf sf => ?_
          have saf := sae.trans sf
          refine evl_cons da_mono (evd_list (hN _ saf) (evl_cons da_mono (evd_list (hN _ saf) (evl_cons da_mono (evd_leaf fun _ => .int _) fun _ _ => evl_nil) (by decide)) fun _ _ => evl_nil) (by decide)) fun Hg sg => ?_
          have sag := saf.trans sg
          refine evl_cons da_mono (evd_cat (hN _ sag) (evd_rep (hN _ sag) (fun _ => .bl true) (fun H Q q => ⟨_, rfl, q⟩) (by omega)) (fun _ => .str _) (by rw [List.length_replicate]; omega)) fun Hh sh => ?_
          exact evl_nil
        obtain ⟨W, os, rfl, nW, hW, hos⟩ : ∃ W os, v9 = .ref W ∧ ¬ (H15 W ≠ none) ∧ H16 W = some (.lst os) ∧ DaAll (fun a => H15 a ≠ none) H16 os (oddD m) := by
          cases hodd with
          | lst a b c => exact ⟨_, _, rfl, a, b, c⟩
        have los : os.length = 8 := by rw [hos.length]; rfl
        dsimp only [gName]
        have B16 := B15.same s16
        have neW : W ≠ b := fun z => by
          rw [z] at nW
          exact nW (box_some B15)
        have hF16 := s16 _ _ hF15
        refine asg_go ?_
        obtain ⟨q, rfl⟩ := Int.eq_ofNat_of_zero_le at00
        have lq : q ≤ us.length := by omega
        refine ⟨_, rfl, _, rfl, _, rfl, F1, us, rfl, SqL.of hF16, fun p1 np1 => ?_⟩
        rw [cutl_to lq]
        have s17 := same_new (o := .lst (us.take q)) np1
        have h17 : upd H16 p1 (.lst (us.take q)) p1 = some (.lst (us.take q)) := upd_same
        generalize upd H16 p1 (.lst (us.take q)) = H17 at s17 h17 ⊢
        have B17 := B16.same s17
        refine ⟨_, rfl, _, rfl, b, W, os, rfl, B17, neW, s17 _ _ hW, by omega, by omega, fun x H18 hx B18 k18 => ?_⟩
        refine ⟨szL (Nat.le_of_ble_eq_true rfl), fun p2 np2 => ?_⟩
        have s19 := same_new (o := .lst [x]) np2
        have h19 : upd H18 p2 (.lst [x]) p2 = some (.lst [x]) := upd_same
        generalize upd H18 p2 (.lst [x]) = H19 at s19 h19 ⊢
        have nep1 : p1 ≠ b := B16.ne_none np1
        refine ⟨p1, p2, us.take q, [x], rfl, rfl, s19 _ _ (k18 _ _ nep1 h17), h19, szL (by rw [List.length_take, List.length_singleton]; omega), fun p3 np3 => ?_⟩
        have s20 := same_new (o := .lst (us.take q ++ [x])) np3
        have h20 : upd H19 p3 (.lst (us.take q ++ [x])) p3 = some (.lst (us.take q ++ [x])) := upd_same
        generalize upd H19 p3 (.lst (us.take q ++ [x])) = H20 at s20 h20 ⊢
        have hF20 := s20 _ _ (s19 _ _ (k18 _ _ neF1 (s17 _ _ hF16)))
        refine ⟨_, rfl, _, rfl, _, rfl, F1, us, rfl, SqL.of hF20, fun p4 np4 => ?_⟩
        rw [cutl_from lq]
        have s21 := same_new (o := .lst (us.drop q)) np4
        have h21 : upd H20 p4 (.lst (us.drop q)) p4 = some (.lst (us.drop q)) := upd_same
        generalize upd H20 p4 (.lst (us.drop q)) = H21 at s21 h21 ⊢
        refine ⟨p3, p4, _, _, rfl, rfl, s21 _ _ h20, h21, szL (by rw [List.length_append, List.length_take, List.length_drop, List.length_singleton]; omega), fun p5 np5 => ?_⟩
        have s22 := same_new (o := .lst (us.take q ++ [x] ++ us.drop q)) np5
        have h22 : upd H21 p5 (.lst (us.take q ++ [x] ++ us.drop q)) p5 = some (.lst (us.take q ++ [x] ++ us.drop q)) := upd_same
        generalize upd H21 p5 (.lst (us.take q ++ [x] ++ us.drop q)) = H22 at s22 h22 ⊢
        dsimp only [gName]
        have k1718 : But b H15 H18 := (But.of_same (s16.trans s17)).trans k18
        have s1822 := ((s19.trans s20).trans s21).trans s22
        have B22 := B18.same s1822
        have k1522 : But b H15 H22 := k1718.trans (But.of_same s1822)
        have k1022 : But b H10 H22 := ((But.of_same s014).trans k15).trans k1522
        have hu22 := hu10.fz (B10.fz k1022)
        obtain ⟨dx2, hdx, hx2⟩ : ∃ dx2, dx2 ∈ oddD m ∧ Da (fun _ => False) H22 x dx2 := by
          obtain ⟨iq, eiq⟩ := List.getElem?_of_mem hx
          obtain ⟨d2, ed2, hd2⟩ := hos.get eiq
          exact ⟨d2, List.mem_of_getElem? ed2, hd2.but B16 ((But.of_same s17).trans (k18.trans (But.of_same s1822))) (box_some B15) fun _ z => z.elim⟩
        have hall22 : DaAll (fun _ => False) H22 us (rs.map rowL) := hall.but B10 k1022 (box_some B9) fun _ z => z.elim
        have hbent : DaAll (fun _ => False) H22 (us.take q ++ [x] ++ us.drop q) ((rs.map rowL).take q ++ [dx2] ++ (rs.map rowL).drop q) := ((hall22.take q).cat (.cons hx2 .nil)).cat (hall22.drop q)
        obtain ⟨bad, lodd⟩ := odd_bad hdx
        have mem0 : rowL r0 ∈ (rs.map rowL).take q ++ [dx2] ++ (rs.map rowL).drop q := by
          have h : rowL r0 ∈ rs.map rowL := List.mem_map.mpr ⟨r0, List.mem_of_getElem? er0, rfl⟩
          rw [← List.take_append_drop q (rs.map rowL)] at h
          rcases List.mem_append.mp h with h | h
          · exact List.mem_append_left _ (List.mem_append_left _ h)
          · exact List.mem_append_right _ h
        obtain ⟨ib, eib⟩ := due_bad (d := .list ((rs.map rowL).take q ++ [dx2] ++ (rs.map rowL).drop q)) (x := dx2) (y := rowL r0) rfl (List.mem_append_left _ (List.mem_append_right _ (by simp))) mem0 (by
          rcases bad with z | z
          · exact .inl z
          · refine .inr ?_
            rw [z, lenD_rowL, lr0]
            omega)
        have wd3 : Wide (.list ((rs.map rowL).take q ++ [dx2] ++ (rs.map rowL).drop q)) := wide_rows rfl (by rw [List.length_append, List.length_append, List.length_take, List.length_drop, List.length_singleton]; omega) fun y hy ys ey => by
          rcases List.mem_append.mp hy with hy | hy
          · rcases List.mem_append.mp hy with hy | hy
            · exact small y (List.mem_of_mem_take hy) ys ey
            · rw [List.mem_singleton] at hy
              subst hy
              have := lodd ys ey
              omega
          · exact small y (List.mem_of_mem_drop hy) ys ey
        generalize (rs.map rowL).take q ++ [dx2] ++ (rs.map rowL).drop q = bds at hbent eib wd3
        have hbd : Da (fun _ => False) H22 (.ref p5) (.list bds) := .lst (fun z => z) h22 hbent
        refine seqif_go (or_go (tst_go ?_))
        refine cb_go ?_
        refine ⟨_, rfl, _, rfl, _, rfl, fun _ => False, u, .ref p5, fa, ds, .list bds, rfl, hu22, bis, hbd, wd3, fun e => (by rw [eib] at e; cases e), fun H23 s23 => ?_⟩
        refine due_repr (fun i e => due_le wd3 e) ?_
        refine cb_go ?_
        refine ⟨_, rfl, fun _ => False, .ref p5, .list bds, rfl, hbd.same s23, wd3, fun H24 s24 => ?_⟩
        refine due_repr (fun i e => due_le wd3 e) ?_
        refine ⟨rfl, _, rfl, ifF (by simp) ?_⟩
        have s224 := s23.trans s24
        refine ⟨_, rfl, fun _ => False, .ref p5, .list bds, rfl, hbd.same s224, wd3, fun H25 s25 => ?_⟩
        refine ⟨scal_due, _, rfl, ?_⟩
        rw [dueO_played, eib]
        refine ifF rfl ?_
        dsimp only [tNext]
        have s225 := s224.trans s25
        have B25 := B22.same s225
        refine asg_go ?_
        refine ⟨_, rfl, b, rfl, B25, fun v dv H26 hvv hsm B26 k26 => ?_⟩
        obtain ⟨_, hsh⟩ := hsm
        have wdv := hsh.wide
        have k1026 := (k1022.trans (But.of_same s225)).trans k26
        have hu26 := hu10.fz (B10.fz k1026)
        have bndv : ∀ n' m' : Nat, ∀ qs, (∀ xs, seqD dv = some xs → xs.map rowD = qs.map some) → RowsI n' m' qs → seqD dv ≠ none → n' ≤ 1000 ∧ m' ≤ 1000 ∧ (turnsP ds n').length ≤ 10000 := fun n' m' qs h ri nn => by
          have z := short_rows hsh h ri nn
          exact ⟨by omega, by omega, turns_few (by omega) (by omega) lds fds⟩
        dsimp only [gName]
        have hvv' := hvv
        refine seq_k (C := fun σ' H' => σ' = [some (.ref a), some (.int (0 + ((i : Nat) : Int))), some (.ref b), some u, some (.ref fa), some (.int (0 + ((j : Nat) : Int))), some (.ref F1), some (.int ((q : Nat) : Int)), some (.int ((m : Nat) : Int)), some (.ref W), some (.ref p5), some v] ∧ Same H26 H') (fun σ' H27 hC => ?fin) (fun R hR => ?_)
        case fin =>
          obtain ⟨rfl, s27⟩ := hC
          have B27 := B26.same s27
          refine ifs_go (tst_go (cb_go ?_))
          refine ⟨_, rfl, _, rfl, szL (Nat.le_of_ble_eq_true rfl), fun t2 nt2 => ?_⟩
          have s28 := s27.trans (same_new (o := .tup []) nt2)
          refine ⟨_, u, v, t2, ds, dv, rfl, hu26.same s28, bis, hvv.same s28, wdv, fun e => ⟨.inr (SqT.of upd_same), fun n' m' qs h ri => bndv n' m' qs h ri (due_seq e)⟩, fun H29 s29 => ?_⟩
          refine due_repr (fun i e => due_le wdv e) ?_
          refine cb_go ?_
          have s2629 := s28.trans s29
          refine ⟨_, rfl, _, v, dv, rfl, hvv.same s2629, wdv, fun H30 s30 => ?_⟩
          refine due_repr (fun i e => due_le wdv e) ?_
          refine ⟨rfl, _, rfl, ifF (by simp) ?_⟩
          have s2630 := s2629.trans s30
          exact ⟨_, _, _, _, _, _, _, rfl, B26.same s2630, (kc10.trans k1026).trans (But.of_same s2630), hu26.same s2630⟩
        refine ifs_go ?_
        refine ⟨_, rfl, _, v, dv, rfl, hvv, wdv, fun H27 s27 => ?_⟩
        refine ⟨scal_due, _, rfl, ?_⟩
        rw [dueO_played]
        cases ed : dueD dv with
        | none =>
          refine ifF rfl ?_
          refine ifF rfl ?_
          exact hR _ _ ⟨rfl, s27⟩
        | some id =>
          refine ifT rfl ?_
          refine tst_go (cb_go ?_)
          refine ⟨_, rfl, _, rfl, _, rfl, _, u, v, fa, ds, dv, rfl, hu26.same s27, bis, hvv.same s27, wdv, fun e => (by rw [ed] at e; cases e), fun H28 s28 => ?_⟩
          refine due_repr (fun i e => due_le wdv e) ?_
          refine cb_go ?_
          have s2628 := s27.trans s28
          refine ⟨_, rfl, _, v, dv, rfl, hvv.same s2628, wdv, fun H29 s29 => ?_⟩
          refine due_repr (fun i e => due_le wdv e) ?_
          refine ⟨rfl, _, rfl, ifF (by simp) ?_⟩
          exact hR _ _ ⟨rfl, s2628.trans s29⟩
      · obtain ⟨y5, y6, y7, y8, y9, y10, y11, rfl, Bc, kc, huc⟩ := hP
        exact ⟨_, _, _, _, _, _, _, _, _, _, _, rfl, same_but s03 kc nb0⟩
    · obtain ⟨y1, y2, y3, y4, y5, y6, y7, y8, y9, y10, y11, rfl, s2⟩ := hP
      dsimp only
      refine ret_go ?_
      refine opl_go ?_
      have hN : ∀ H : Hp, ∀ a, (fun _ => False) a → H a ≠ none := fun _ _ z => z.elim
      refine lcT_go (evd_tuple (S := fun _ => False) (ds := lastD) ?_ (by decide)) fun v3 H3 s3 hv3 => ?_
      · unfold lastD
        refine evl_cons da_mono (evd_list (hN _) evl_nil (by decide)) fun _ _ => ?_
        refine evl_cons da_mono (evd_tuple evl_nil (by decide)) fun _ _ => ?_
        refine evl_cons da_mono (evd_leaf fun _ => .non) fun _ _ => ?_
        refine evl_cons da_mono (evd_list (hN _) (evl_cons da_mono (evd_list (hN _) evl_nil (by decide)) fun _ _ => evl_nil) (by decide)) fun _ _ => ?_
        exact evl_cons da_mono (evd_list (hN _) (evl_cons da_mono (evd_list (hN _) evl_nil (by decide)) fun _ _ => evl_cons da_mono (evd_list (hN _) (evl_cons da_mono (evd_leaf fun _ => .int _) fun _ _ => evl_nil) (by decide)) fun _ _ => evl_nil) (by decide)) fun _ _ => evl_nil
      obtain ⟨p, xs, rfl, hp, hxs⟩ : ∃ p xs, v3 = .ref p ∧ H3 p = some (.tup xs) ∧ DaAll (fun _ => False) H3 xs lastD := by
        cases hv3 with
        | tup b c => exact ⟨_, _, rfl, b, c⟩
      have lx : xs.length = 5 := by rw [hxs.length]; rfl
      refine ⟨p, rfl, ⟨xs, SqT.of hp⟩, fun D nD => ?_⟩
      refine lc_tup (xs := xs) (fun i Hc => Hc D = some (.lst ((lastD.take i).map fun d => dueO (dueD d))) ∧ Same H3 Hc) ⟨upd_same, same_new nD⟩ (fun i Hc _ hP => SqT.of (hP.2 _ _ hp)) (fun i v Hc hv hP => ?_) (fun Hc hP => ?_)
      · obtain ⟨hD, sc⟩ := hP
        obtain ⟨d, ed, hd⟩ := hxs.get hv
        have hmem := List.mem_of_getElem? ed
        have sh := last_short hmem
        have li := (List.getElem?_eq_some_iff.mp ed).1
        refine ⟨rfl, ?_⟩
        intro x2 d2 nx2 nd2 ne2
        refine make_planE (CL := T.c_Lane) (CF := T.c_Form) (a := T.e_Plan___init___0) (bs := []) (ds := []) (.inr ⟨rfl, T.E_Plan___init___0 _⟩) .nil nx2 nd2 (by decide) fun H4 s4 h4 => ⟨rfl, ?_⟩
        refine ⟨_, rfl, szL (Nat.le_of_ble_eq_true rfl), fun t nt => ?_⟩
        have s5 := s4.trans (same_new (o := .tup []) nt)
        refine ⟨_, .ref x2, v, t, [], d, rfl, h4.same (same_new nt), fun _ h => absurd h (by simp), hd.same (sc.trans s5), sh.wide, fun e => ⟨.inr (SqT.of upd_same), fun n' m' qs h ri => ?_⟩, fun H6 s6 => ?_⟩
        · have z := short_rows sh h ri (due_seq e)
          exact ⟨by omega, by omega, Nat.zero_le _⟩
        · have s46 := s5.trans s6
          refine ⟨_, s46 _ _ hD, szL2 (by rw [List.length_map, List.length_take]; have : lastD.length = 5 := rfl; omega), ?_, same_lst (sc.trans s46) nD⟩
          rw [upd_same, take_snoc ed, List.map_append]
          rfl
      · obtain ⟨hD, sc⟩ := hP
        rw [lx] at hD
        have eL : ((lastD.take 5).map fun d => dueO (dueD d)) = [.int 0, .int 0, .int 0, .str (Str.ofString "played"), .int 1] := rfl
        rw [eL] at hD
        refine ⟨szL (Nat.le_of_ble_eq_true rfl), fun q nq => ?_⟩
        have s5 := same_new (o := .lst [.int 0, .int 0, .int 0, .str (Str.ofString "played"), .int 1]) nq
        refine ⟨.list [.int 0, .int 0, .int 0, .str (Str.ofString "played"), .int 1], .list [.int 0, .int 0, .int 0, .str (Str.ofString "played"), .int 1], .lst (SqL.of (s5 _ _ hD)) (.cons (.int 0) (.cons (.int 0) (.cons (.int 0) (.cons (.str _) (.cons (.int 1) .nil))))), .lst (SqL.of upd_same) (.cons (.int 0) (.cons (.int 0) (.cons (.int 0) (.cons (.str _) (.cons (.int 1) .nil))))), by decide +kernel, by decide +kernel, ?_⟩
        have ev : PyData.eqv (.list [.int 0, .int 0, .int 0, .str (Str.ofString "played"), .int 1]) (.list [.int 0, .int 0, .int 0, .str (Str.ofString "played"), .int 1]) = true := by decide +kernel
        rw [ev]
        exact k _

theorem dct_STEPS {A : Addr} (h0 : KDct K w A "up" (.int 1)) (h1 : KDct K w A "down" (.int (-1))) : ∀ l : LD, LI l → KDct K w A l.w (.int (stepP l)) := fun l i => by
  have h := i.w
  unfold ways at h
  simp only [List.mem_cons, List.not_mem_nil, or_false] at h
  unfold stepP
  rcases h with h | h
  · rw [h]
    exact h0
  · rw [h]
    exact h1
theorem dct_COMINGS {A : Addr} (h0 : KDct K w A "again" (.int 2)) (h1 : KDct K w A "lost" (.int 0)) : ∀ d : SD, KindOk d → KDct K w A d.k (.int (comeV d.k : Int)) := fun d i => by
  unfold comeV
  rcases i with h | h
  · rw [h]
    exact h0
  · rw [h]
    exact h1

end
theorem all_mk {l : PySem.W.OpenLaw} {w : World} {K : PySem.W.Frag} {h : Heap} {mg : Str → Option Value} {fa : Addr} (X : K.In h) (G : h.Ns mainGlobals mg) (hfa : mg "law" = some (.ref fa))
    {C_RingError : Addr} (aC_RingError : PySem.W.nsIn K mainGlobals "RingError" = some (some (.ref C_RingError)))
    {C_InvalidPlan : Addr} (aC_InvalidPlan : PySem.W.nsIn K mainGlobals "InvalidPlan" = some (some (.ref C_InvalidPlan)))
    {C_InvalidRows : Addr} (aC_InvalidRows : PySem.W.nsIn K mainGlobals "InvalidRows" = some (some (.ref C_InvalidRows)))
    {nm_InvalidRows q_InvalidRows : Str} {N_InvalidRows : Addr} {bs_InvalidRows : List Value} {sn_InvalidRows : List Str} {sub_InvalidRows : List Value} {ab_InvalidRows : Bool} {col_InvalidRows : Option Bool} {dd_InvalidRows : Option Addr} {m0_InvalidRows m1_InvalidRows m2_InvalidRows m3_InvalidRows m5_InvalidRows : Option Value}
    (xL_InvalidRows : K.lookup C_InvalidRows = some (excClassObj nm_InvalidRows q_InvalidRows C_InvalidRows N_InvalidRows bs_InvalidRows [.ref C_RingError, .type "ValueError", .type "Exception", .type "BaseException", .type "object"] true sn_InvalidRows sub_InvalidRows ab_InvalidRows col_InvalidRows dd_InvalidRows m0_InvalidRows m1_InvalidRows m2_InvalidRows m3_InvalidRows m5_InvalidRows "ValueError.__new__"))
    (sa_InvalidRows : PySem.W.findIn K (.ref C_InvalidRows) "__setattr__" = some (some (.builtin "object.__setattr__")))
    (ga_InvalidRows : PySem.W.findIn K (.ref C_InvalidRows) "__getattribute__" = some (some (.builtin "BaseException.__getattribute__")))
    (gg_InvalidRows : PySem.W.findIn K (.ref C_InvalidRows) "__getattr__" = some none)
    (nw_InvalidRows : PySem.W.findIn K (.ref C_InvalidRows) "at" = some none)
    (ca_InvalidRows : PySem.W.findIn K (.ref C_InvalidRows) "__class__" = some (some (.builtin "object.__class__")))
    (kC_InvalidRows : PySem.W.keepIn K (.ref C_InvalidRows) = true)
    (eC_InvalidRows : PySem.W.subIn K (.ref C_InvalidRows) (.type "BaseException") = some true)
    (tC_InvalidRows : PySem.W.typeIn K (.ref C_InvalidRows) = some (.type "type"))
    (hC_InvalidRows : PySem.W.hasDictIn K C_InvalidRows = true)
    (sC_InvalidRows : PySem.W.subIn K (.ref C_InvalidRows) (.ref C_InvalidRows) = some true)
    (mo_InvalidRows : PySem.W.mroIn K C_InvalidRows (.type "object") = some true)
    (cl_InvalidRows : (PySem.W.clsIn K C_InvalidRows).isSome = true)
    {f0 : Addr} {od0 an0 : Option Addr} {sl0 : Array (Option Value)} {oc0 kV0 dc0 pm0 cd0 ct0 : Value}
    (l0 : K.lookup f0 = some ⟨oc0, od0, .func (PySem.W.fnOf "__init__" "InvalidRows.__init__" (defArgs s_InvalidRows___init__) (defBody s_InvalidRows___init__) (defScope s_InvalidRows___init__) .none kV0 dc0 pm0 an0 cd0 ct0), sl0⟩) (c0 : PySem.W.codeIn K cd0 "InvalidRows.__init__" = true) (k0 : PySem.W.keepIn K (.ref f0) = true)
    (iC_InvalidRows : PySem.W.findIn K (.ref C_InvalidRows) "__init__" = some (some (.ref f0))) (iT_InvalidRows : PySem.W.typeIn K (.ref f0) = some (.type "function"))
    {C_InvalidSlip : Addr} (aC_InvalidSlip : PySem.W.nsIn K mainGlobals "InvalidSlip" = some (some (.ref C_InvalidSlip)))
    {nm_InvalidSlip q_InvalidSlip : Str} {N_InvalidSlip : Addr} {bs_InvalidSlip : List Value} {sn_InvalidSlip : List Str} {sub_InvalidSlip : List Value} {ab_InvalidSlip : Bool} {col_InvalidSlip : Option Bool} {dd_InvalidSlip : Option Addr} {m0_InvalidSlip m1_InvalidSlip m2_InvalidSlip m3_InvalidSlip m5_InvalidSlip : Option Value}
    (xL_InvalidSlip : K.lookup C_InvalidSlip = some (excClassObj nm_InvalidSlip q_InvalidSlip C_InvalidSlip N_InvalidSlip bs_InvalidSlip [.ref C_RingError, .type "ValueError", .type "Exception", .type "BaseException", .type "object"] true sn_InvalidSlip sub_InvalidSlip ab_InvalidSlip col_InvalidSlip dd_InvalidSlip m0_InvalidSlip m1_InvalidSlip m2_InvalidSlip m3_InvalidSlip m5_InvalidSlip "ValueError.__new__"))
    (sa_InvalidSlip : PySem.W.findIn K (.ref C_InvalidSlip) "__setattr__" = some (some (.builtin "object.__setattr__")))
    (ga_InvalidSlip : PySem.W.findIn K (.ref C_InvalidSlip) "__getattribute__" = some (some (.builtin "BaseException.__getattribute__")))
    (gg_InvalidSlip : PySem.W.findIn K (.ref C_InvalidSlip) "__getattr__" = some none)
    (nw_InvalidSlip : PySem.W.findIn K (.ref C_InvalidSlip) "word" = some none)
    (ca_InvalidSlip : PySem.W.findIn K (.ref C_InvalidSlip) "__class__" = some (some (.builtin "object.__class__")))
    (kC_InvalidSlip : PySem.W.keepIn K (.ref C_InvalidSlip) = true)
    (eC_InvalidSlip : PySem.W.subIn K (.ref C_InvalidSlip) (.type "BaseException") = some true)
    (tC_InvalidSlip : PySem.W.typeIn K (.ref C_InvalidSlip) = some (.type "type"))
    (hC_InvalidSlip : PySem.W.hasDictIn K C_InvalidSlip = true)
    (sC_InvalidSlip : PySem.W.subIn K (.ref C_InvalidSlip) (.ref C_InvalidSlip) = some true)
    (mo_InvalidSlip : PySem.W.mroIn K C_InvalidSlip (.type "object") = some true)
    (cl_InvalidSlip : (PySem.W.clsIn K C_InvalidSlip).isSome = true)
    {f1 : Addr} {od1 an1 : Option Addr} {sl1 : Array (Option Value)} {oc1 kV1 dc1 pm1 cd1 ct1 : Value}
    (l1 : K.lookup f1 = some ⟨oc1, od1, .func (PySem.W.fnOf "__init__" "InvalidSlip.__init__" (defArgs s_InvalidSlip___init__) (defBody s_InvalidSlip___init__) (defScope s_InvalidSlip___init__) .none kV1 dc1 pm1 an1 cd1 ct1), sl1⟩) (c1 : PySem.W.codeIn K cd1 "InvalidSlip.__init__" = true) (k1 : PySem.W.keepIn K (.ref f1) = true)
    (iC_InvalidSlip : PySem.W.findIn K (.ref C_InvalidSlip) "__init__" = some (some (.ref f1))) (iT_InvalidSlip : PySem.W.typeIn K (.ref f1) = some (.type "function"))
    {C_Refused : Addr} (aC_Refused : PySem.W.nsIn K mainGlobals "Refused" = some (some (.ref C_Refused)))
    {nm_Refused q_Refused : Str} {N_Refused : Addr} {bs_Refused : List Value} {sn_Refused : List Str} {sub_Refused : List Value} {ab_Refused : Bool} {col_Refused : Option Bool} {dd_Refused : Option Addr} {m0_Refused m1_Refused m2_Refused m3_Refused m5_Refused : Option Value}
    (xL_Refused : K.lookup C_Refused = some (excClassObj nm_Refused q_Refused C_Refused N_Refused bs_Refused [.ref C_RingError, .type "ValueError", .type "Exception", .type "BaseException", .type "object"] true sn_Refused sub_Refused ab_Refused col_Refused dd_Refused m0_Refused m1_Refused m2_Refused m3_Refused m5_Refused "ValueError.__new__"))
    (sa_Refused : PySem.W.findIn K (.ref C_Refused) "__setattr__" = some (some (.builtin "object.__setattr__")))
    (ga_Refused : PySem.W.findIn K (.ref C_Refused) "__getattribute__" = some (some (.builtin "BaseException.__getattribute__")))
    (gg_Refused : PySem.W.findIn K (.ref C_Refused) "__getattr__" = some none)
    (nw_Refused : PySem.W.findIn K (.ref C_Refused) "at" = some none)
    (ca_Refused : PySem.W.findIn K (.ref C_Refused) "__class__" = some (some (.builtin "object.__class__")))
    (kC_Refused : PySem.W.keepIn K (.ref C_Refused) = true)
    (eC_Refused : PySem.W.subIn K (.ref C_Refused) (.type "BaseException") = some true)
    (tC_Refused : PySem.W.typeIn K (.ref C_Refused) = some (.type "type"))
    (hC_Refused : PySem.W.hasDictIn K C_Refused = true)
    (sC_Refused : PySem.W.subIn K (.ref C_Refused) (.ref C_Refused) = some true)
    (mo_Refused : PySem.W.mroIn K C_Refused (.type "object") = some true)
    (cl_Refused : (PySem.W.clsIn K C_Refused).isSome = true)
    {f2 : Addr} {od2 an2 : Option Addr} {sl2 : Array (Option Value)} {oc2 kV2 dc2 pm2 cd2 ct2 : Value}
    (l2 : K.lookup f2 = some ⟨oc2, od2, .func (PySem.W.fnOf "__init__" "Refused.__init__" (defArgs s_Refused___init__) (defBody s_Refused___init__) (defScope s_Refused___init__) .none kV2 dc2 pm2 an2 cd2 ct2), sl2⟩) (c2 : PySem.W.codeIn K cd2 "Refused.__init__" = true) (k2 : PySem.W.keepIn K (.ref f2) = true)
    (iC_Refused : PySem.W.findIn K (.ref C_Refused) "__init__" = some (some (.ref f2))) (iT_Refused : PySem.W.typeIn K (.ref f2) = some (.type "function"))
    {C_Form : Addr} (aC_Form : PySem.W.nsIn K mainGlobals "Form" = some (some (.ref C_Form)))
    (pg_Form : PySem.W.plainGet K C_Form Str.empty = true)
    (hd_Form : PySem.W.hasDictIn K C_Form = true)
    (po_Form : PySem.W.plainOver K C_Form = true)
    (sa_Form : PySem.W.findIn K (.ref C_Form) "__setattr__" = some (some (.builtin "object.__setattr__")))
    (mk_Form : PySem.W.makesIn K C_Form = true)
    (kc_Form : PySem.W.keepIn K (.ref C_Form) = true)
    (n_times_Form : PySem.W.findIn K (.ref C_Form) "times" = some none)
    (n_plus_Form : PySem.W.findIn K (.ref C_Form) "plus" = some none)
    (n_by_Form : PySem.W.findIn K (.ref C_Form) "by" = some none)
    (fo_Form : PySem.W.findIn K (.ref C_Form) "__format__" = some (some (.builtin "object.__format__")))
    (cl_Form : (PySem.W.clsIn K C_Form).isSome = true)
    (tC_Form : PySem.W.typeIn K (.ref C_Form) = some (.type "type"))
    (ca_Form : PySem.W.findIn K (.ref C_Form) "__class__" = some (some (.builtin "object.__class__")))
    (mo_Form : PySem.W.mroIn K C_Form (.type "object") = some true)
    (nE_Form : PySem.W.findIn K (.ref C_Form) "__ne__" = some (some (.builtin "object.__ne__")))
    (mo_N_Form : PySem.W.mroIn K C_Form (.type "NoneType") = some false)
    (mo_S_Form : PySem.W.mroIn K C_Form (.type "str") = some false)
    (mo_T_Form : PySem.W.mroIn K C_Form (.type "tuple") = some false)
    (mo_L_Form : PySem.W.mroIn K C_Form (.type "list") = some false)
    (mo_I_Form : PySem.W.mroIn K C_Form (.type "int") = some false)
    {f3 : Addr} {od3 an3 : Option Addr} {sl3 : Array (Option Value)} {oc3 kV3 dc3 pm3 cd3 ct3 : Value}
    {T3 : Addr} {dd3 : Option Addr} {dn3 : Nat} {dsl3 : Array (Option Value)} {t3_0 : Tok} {t3_1 : Tok} {t3_2 : Tok}
    (t3 : K.lookup T3 = some ⟨.type "tuple", dd3, .seq [Value.int 0 t3_0, Value.int 0 t3_1, Value.int 1 t3_2].toArray dn3, dsl3⟩)
    (l3 : K.lookup f3 = some ⟨oc3, od3, .func (PySem.W.fnOf "__init__" "Form.__init__" (defArgs s_Form___init__) (defBody s_Form___init__) (defScope s_Form___init__) (.ref T3) kV3 dc3 pm3 an3 cd3 ct3), sl3⟩) (c3 : PySem.W.codeIn K cd3 "Form.__init__" = true) (k3 : PySem.W.keepIn K (.ref f3) = true)
    (a3 : PySem.W.findIn K (.ref C_Form) "__init__" = some (some (.ref f3))) (i3 : PySem.W.isFn K (.ref f3) = true)
    {f4 : Addr} {od4 an4 : Option Addr} {sl4 : Array (Option Value)} {oc4 kV4 dc4 pm4 cd4 ct4 : Value}
    (l4 : K.lookup f4 = some ⟨oc4, od4, .func (PySem.W.fnOf "__call__" "Form.__call__" (defArgs s_Form___call__) (defBody s_Form___call__) (defScope s_Form___call__) .none kV4 dc4 pm4 an4 cd4 ct4), sl4⟩) (c4 : PySem.W.codeIn K cd4 "Form.__call__" = true) (k4 : PySem.W.keepIn K (.ref f4) = true)
    (a4 : PySem.W.findIn K (.ref C_Form) "__call__" = some (some (.ref f4))) (i4 : PySem.W.isFn K (.ref f4) = true)
    (fi4 : PySem.W.fnIn K f4 = true)
    {f5 : Addr} {od5 an5 : Option Addr} {sl5 : Array (Option Value)} {oc5 kV5 dc5 pm5 cd5 ct5 : Value}
    (l5 : K.lookup f5 = some ⟨oc5, od5, .func (PySem.W.fnOf "__eq__" "Form.__eq__" (defArgs s_Form___eq__) (defBody s_Form___eq__) (defScope s_Form___eq__) .none kV5 dc5 pm5 an5 cd5 ct5), sl5⟩) (c5 : PySem.W.codeIn K cd5 "Form.__eq__" = true) (k5 : PySem.W.keepIn K (.ref f5) = true)
    (a5 : PySem.W.findIn K (.ref C_Form) "__eq__" = some (some (.ref f5))) (i5 : PySem.W.isFn K (.ref f5) = true)
    {f6 : Addr} {od6 an6 : Option Addr} {sl6 : Array (Option Value)} {oc6 kV6 dc6 pm6 cd6 ct6 : Value}
    (l6 : K.lookup f6 = some ⟨oc6, od6, .func (PySem.W.fnOf "__str__" "Form.__str__" (defArgs s_Form___str__) (defBody s_Form___str__) (defScope s_Form___str__) .none kV6 dc6 pm6 an6 cd6 ct6), sl6⟩) (c6 : PySem.W.codeIn K cd6 "Form.__str__" = true) (k6 : PySem.W.keepIn K (.ref f6) = true)
    (a6 : PySem.W.findIn K (.ref C_Form) "__str__" = some (some (.ref f6))) (i6 : PySem.W.isFn K (.ref f6) = true)
    {f7 : Addr} {od7 an7 : Option Addr} {sl7 : Array (Option Value)} {oc7 kV7 dc7 pm7 cd7 ct7 : Value}
    (l7 : K.lookup f7 = some ⟨oc7, od7, .func (PySem.W.fnOf "read" "Form.read" (defArgs s_Form_read) (defBody s_Form_read) (defScope s_Form_read) .none kV7 dc7 pm7 an7 cd7 ct7), sl7⟩) (c7 : PySem.W.codeIn K cd7 "Form.read" = true) (k7 : PySem.W.keepIn K (.ref f7) = true)
    (cr_Form : PySem.W.readsIn K C_Form (.type "type") = true) (cg_Form : PySem.W.specialIn K (.ref C_Form) "__getattribute__" = some (some (.builtin "type.__getattribute__")))
    {pA7 : Addr} {pR7 : List Value} (pm7 : PySem.W.findCls K (.ref C_Form) (.type "type") "read" = some (.get (.builtin "classmethod.__get__") (.ref pA7) .none (.ref C_Form))) (pr7 : PySem.W.recIn K pA7 "classmethod" = some (.ref f7 :: pR7)) (pf7 : PySem.W.fnIn K f7 = true)
    {C_Lane : Addr} (aC_Lane : PySem.W.nsIn K mainGlobals "Lane" = some (some (.ref C_Lane)))
    (pg_Lane : PySem.W.plainGet K C_Lane Str.empty = true)
    (hd_Lane : PySem.W.hasDictIn K C_Lane = true)
    (po_Lane : PySem.W.plainOver K C_Lane = true)
    (sa_Lane : PySem.W.findIn K (.ref C_Lane) "__setattr__" = some (some (.builtin "object.__setattr__")))
    (mk_Lane : PySem.W.makesIn K C_Lane = true)
    (kc_Lane : PySem.W.keepIn K (.ref C_Lane) = true)
    (n_way_Lane : PySem.W.findIn K (.ref C_Lane) "way" = some none)
    (n_sign_Lane : PySem.W.findIn K (.ref C_Lane) "sign" = some none)
    (n_shift_Lane : PySem.W.findIn K (.ref C_Lane) "shift" = some none)
    (n_deed_Lane : PySem.W.findIn K (.ref C_Lane) "deed" = some none)
    (cl_Lane : (PySem.W.clsIn K C_Lane).isSome = true)
    (tC_Lane : PySem.W.typeIn K (.ref C_Lane) = some (.type "type"))
    (ca_Lane : PySem.W.findIn K (.ref C_Lane) "__class__" = some (some (.builtin "object.__class__")))
    (mo_Lane : PySem.W.mroIn K C_Lane (.type "object") = some true)
    (nE_Lane : PySem.W.findIn K (.ref C_Lane) "__ne__" = some (some (.builtin "object.__ne__")))
    (mo_N_Lane : PySem.W.mroIn K C_Lane (.type "NoneType") = some false)
    (mo_S_Lane : PySem.W.mroIn K C_Lane (.type "str") = some false)
    (mo_T_Lane : PySem.W.mroIn K C_Lane (.type "tuple") = some false)
    (mo_L_Lane : PySem.W.mroIn K C_Lane (.type "list") = some false)
    (mo_I_Lane : PySem.W.mroIn K C_Lane (.type "int") = some false)
    {f8 : Addr} {od8 an8 : Option Addr} {sl8 : Array (Option Value)} {oc8 kV8 dc8 pm8 cd8 ct8 : Value}
    (l8 : K.lookup f8 = some ⟨oc8, od8, .func (PySem.W.fnOf "__init__" "Lane.__init__" (defArgs s_Lane___init__) (defBody s_Lane___init__) (defScope s_Lane___init__) .none kV8 dc8 pm8 an8 cd8 ct8), sl8⟩) (c8 : PySem.W.codeIn K cd8 "Lane.__init__" = true) (k8 : PySem.W.keepIn K (.ref f8) = true)
    (a8 : PySem.W.findIn K (.ref C_Lane) "__init__" = some (some (.ref f8))) (i8 : PySem.W.isFn K (.ref f8) = true)
    {f9 : Addr} {od9 an9 : Option Addr} {sl9 : Array (Option Value)} {oc9 kV9 dc9 pm9 cd9 ct9 : Value}
    (l9 : K.lookup f9 = some ⟨oc9, od9, .func (PySem.W.fnOf "__eq__" "Lane.__eq__" (defArgs s_Lane___eq__) (defBody s_Lane___eq__) (defScope s_Lane___eq__) .none kV9 dc9 pm9 an9 cd9 ct9), sl9⟩) (c9 : PySem.W.codeIn K cd9 "Lane.__eq__" = true) (k9 : PySem.W.keepIn K (.ref f9) = true)
    (a9 : PySem.W.findIn K (.ref C_Lane) "__eq__" = some (some (.ref f9))) (i9 : PySem.W.isFn K (.ref f9) = true)
    {f10 : Addr} {od10 an10 : Option Addr} {sl10 : Array (Option Value)} {oc10 kV10 dc10 pm10 cd10 ct10 : Value}
    (l10 : K.lookup f10 = some ⟨oc10, od10, .func (PySem.W.fnOf "__str__" "Lane.__str__" (defArgs s_Lane___str__) (defBody s_Lane___str__) (defScope s_Lane___str__) .none kV10 dc10 pm10 an10 cd10 ct10), sl10⟩) (c10 : PySem.W.codeIn K cd10 "Lane.__str__" = true) (k10 : PySem.W.keepIn K (.ref f10) = true)
    (a10 : PySem.W.findIn K (.ref C_Lane) "__str__" = some (some (.ref f10))) (i10 : PySem.W.isFn K (.ref f10) = true)
    {C_Block : Addr} (aC_Block : PySem.W.nsIn K mainGlobals "Block" = some (some (.ref C_Block)))
    (pg_Block : PySem.W.plainGet K C_Block Str.empty = true)
    (hd_Block : PySem.W.hasDictIn K C_Block = true)
    (po_Block : PySem.W.plainOver K C_Block = true)
    (sa_Block : PySem.W.findIn K (.ref C_Block) "__setattr__" = some (some (.builtin "object.__setattr__")))
    (mk_Block : PySem.W.makesIn K C_Block = true)
    (kc_Block : PySem.W.keepIn K (.ref C_Block) = true)
    (n_rounds_Block : PySem.W.findIn K (.ref C_Block) "rounds" = some none)
    (n_lanes_Block : PySem.W.findIn K (.ref C_Block) "lanes" = some none)
    (cl_Block : (PySem.W.clsIn K C_Block).isSome = true)
    (tC_Block : PySem.W.typeIn K (.ref C_Block) = some (.type "type"))
    (ca_Block : PySem.W.findIn K (.ref C_Block) "__class__" = some (some (.builtin "object.__class__")))
    (mo_Block : PySem.W.mroIn K C_Block (.type "object") = some true)
    (nE_Block : PySem.W.findIn K (.ref C_Block) "__ne__" = some (some (.builtin "object.__ne__")))
    (mo_N_Block : PySem.W.mroIn K C_Block (.type "NoneType") = some false)
    (mo_S_Block : PySem.W.mroIn K C_Block (.type "str") = some false)
    (mo_T_Block : PySem.W.mroIn K C_Block (.type "tuple") = some false)
    (mo_L_Block : PySem.W.mroIn K C_Block (.type "list") = some false)
    (mo_I_Block : PySem.W.mroIn K C_Block (.type "int") = some false)
    {f11 : Addr} {od11 an11 : Option Addr} {sl11 : Array (Option Value)} {oc11 kV11 dc11 pm11 cd11 ct11 : Value}
    (l11 : K.lookup f11 = some ⟨oc11, od11, .func (PySem.W.fnOf "__init__" "Block.__init__" (defArgs s_Block___init__) (defBody s_Block___init__) (defScope s_Block___init__) .none kV11 dc11 pm11 an11 cd11 ct11), sl11⟩) (c11 : PySem.W.codeIn K cd11 "Block.__init__" = true) (k11 : PySem.W.keepIn K (.ref f11) = true)
    (a11 : PySem.W.findIn K (.ref C_Block) "__init__" = some (some (.ref f11))) (i11 : PySem.W.isFn K (.ref f11) = true)
    {f12 : Addr} {od12 an12 : Option Addr} {sl12 : Array (Option Value)} {oc12 kV12 dc12 pm12 cd12 ct12 : Value}
    (l12 : K.lookup f12 = some ⟨oc12, od12, .func (PySem.W.fnOf "__eq__" "Block.__eq__" (defArgs s_Block___eq__) (defBody s_Block___eq__) (defScope s_Block___eq__) .none kV12 dc12 pm12 an12 cd12 ct12), sl12⟩) (c12 : PySem.W.codeIn K cd12 "Block.__eq__" = true) (k12 : PySem.W.keepIn K (.ref f12) = true)
    (a12 : PySem.W.findIn K (.ref C_Block) "__eq__" = some (some (.ref f12))) (i12 : PySem.W.isFn K (.ref f12) = true)
    {f13 : Addr} {od13 an13 : Option Addr} {sl13 : Array (Option Value)} {oc13 kV13 dc13 pm13 cd13 ct13 : Value}
    (l13 : K.lookup f13 = some ⟨oc13, od13, .func (PySem.W.fnOf "__str__" "Block.__str__" (defArgs s_Block___str__) (defBody s_Block___str__) (defScope s_Block___str__) .none kV13 dc13 pm13 an13 cd13 ct13), sl13⟩) (c13 : PySem.W.codeIn K cd13 "Block.__str__" = true) (k13 : PySem.W.keepIn K (.ref f13) = true)
    (a13 : PySem.W.findIn K (.ref C_Block) "__str__" = some (some (.ref f13))) (i13 : PySem.W.isFn K (.ref f13) = true)
    {C_Plan : Addr} (aC_Plan : PySem.W.nsIn K mainGlobals "Plan" = some (some (.ref C_Plan)))
    (pg_Plan : PySem.W.plainGet K C_Plan Str.empty = true)
    (hd_Plan : PySem.W.hasDictIn K C_Plan = true)
    (po_Plan : PySem.W.plainOver K C_Plan = true)
    (sa_Plan : PySem.W.findIn K (.ref C_Plan) "__setattr__" = some (some (.builtin "object.__setattr__")))
    (mk_Plan : PySem.W.makesIn K C_Plan = true)
    (kc_Plan : PySem.W.keepIn K (.ref C_Plan) = true)
    (n_blocks_Plan : PySem.W.findIn K (.ref C_Plan) "blocks" = some none)
    (n_found_Plan : PySem.W.findIn K (.ref C_Plan) "found" = some none)
    (cl_Plan : (PySem.W.clsIn K C_Plan).isSome = true)
    (tC_Plan : PySem.W.typeIn K (.ref C_Plan) = some (.type "type"))
    (ca_Plan : PySem.W.findIn K (.ref C_Plan) "__class__" = some (some (.builtin "object.__class__")))
    (mo_Plan : PySem.W.mroIn K C_Plan (.type "object") = some true)
    (nE_Plan : PySem.W.findIn K (.ref C_Plan) "__ne__" = some (some (.builtin "object.__ne__")))
    (mo_N_Plan : PySem.W.mroIn K C_Plan (.type "NoneType") = some false)
    (mo_S_Plan : PySem.W.mroIn K C_Plan (.type "str") = some false)
    (mo_T_Plan : PySem.W.mroIn K C_Plan (.type "tuple") = some false)
    (mo_L_Plan : PySem.W.mroIn K C_Plan (.type "list") = some false)
    (mo_I_Plan : PySem.W.mroIn K C_Plan (.type "int") = some false)
    {f14 : Addr} {od14 an14 : Option Addr} {sl14 : Array (Option Value)} {oc14 kV14 dc14 pm14 cd14 ct14 : Value}
    {T14 : Addr} {dd14 : Option Addr} {dn14 : Nat} {dsl14 : Array (Option Value)} {eD_Plan___init___0 : Addr}
    (t14 : K.lookup T14 = some ⟨.type "tuple", dd14, .seq [Value.ref eD_Plan___init___0].toArray dn14, dsl14⟩)
    (l14 : K.lookup f14 = some ⟨oc14, od14, .func (PySem.W.fnOf "__init__" "Plan.__init__" (defArgs s_Plan___init__) (defBody s_Plan___init__) (defScope s_Plan___init__) (.ref T14) kV14 dc14 pm14 an14 cd14 ct14), sl14⟩) (c14 : PySem.W.codeIn K cd14 "Plan.__init__" = true) (k14 : PySem.W.keepIn K (.ref f14) = true)
    {eC_Plan___init___0 : Option Addr} {eN_Plan___init___0 : Nat} {eS_Plan___init___0 : Array (Option Value)} (lD_Plan___init___0 : K.lookup eD_Plan___init___0 = some ⟨.type "tuple", eC_Plan___init___0, .seq ([] : List Value).toArray eN_Plan___init___0, eS_Plan___init___0⟩)
    (a14 : PySem.W.findIn K (.ref C_Plan) "__init__" = some (some (.ref f14))) (i14 : PySem.W.isFn K (.ref f14) = true)
    {f15 : Addr} {od15 an15 : Option Addr} {sl15 : Array (Option Value)} {oc15 kV15 dc15 pm15 cd15 ct15 : Value}
    (l15 : K.lookup f15 = some ⟨oc15, od15, .func (PySem.W.fnOf "all_rounds" "Plan.all_rounds" (defArgs s_Plan_all_rounds) (defBody s_Plan_all_rounds) (defScope s_Plan_all_rounds) .none kV15 dc15 pm15 an15 cd15 ct15), sl15⟩) (c15 : PySem.W.codeIn K cd15 "Plan.all_rounds" = true) (k15 : PySem.W.keepIn K (.ref f15) = true)
    (a15 : PySem.W.findIn K (.ref C_Plan) "all_rounds" = some (some (.ref f15))) (i15 : PySem.W.isFn K (.ref f15) = true)
    {f16 : Addr} {od16 an16 : Option Addr} {sl16 : Array (Option Value)} {oc16 kV16 dc16 pm16 cd16 ct16 : Value}
    (l16 : K.lookup f16 = some ⟨oc16, od16, .func (PySem.W.fnOf "__eq__" "Plan.__eq__" (defArgs s_Plan___eq__) (defBody s_Plan___eq__) (defScope s_Plan___eq__) .none kV16 dc16 pm16 an16 cd16 ct16), sl16⟩) (c16 : PySem.W.codeIn K cd16 "Plan.__eq__" = true) (k16 : PySem.W.keepIn K (.ref f16) = true)
    (a16 : PySem.W.findIn K (.ref C_Plan) "__eq__" = some (some (.ref f16))) (i16 : PySem.W.isFn K (.ref f16) = true)
    {f17 : Addr} {od17 an17 : Option Addr} {sl17 : Array (Option Value)} {oc17 kV17 dc17 pm17 cd17 ct17 : Value}
    (l17 : K.lookup f17 = some ⟨oc17, od17, .func (PySem.W.fnOf "__str__" "Plan.__str__" (defArgs s_Plan___str__) (defBody s_Plan___str__) (defScope s_Plan___str__) .none kV17 dc17 pm17 an17 cd17 ct17), sl17⟩) (c17 : PySem.W.codeIn K cd17 "Plan.__str__" = true) (k17 : PySem.W.keepIn K (.ref f17) = true)
    (a17 : PySem.W.findIn K (.ref C_Plan) "__str__" = some (some (.ref f17))) (i17 : PySem.W.isFn K (.ref f17) = true)
    {f18 : Addr} {od18 an18 : Option Addr} {sl18 : Array (Option Value)} {oc18 kV18 dc18 pm18 cd18 ct18 : Value}
    (l18 : K.lookup f18 = some ⟨oc18, od18, .func (PySem.W.fnOf "read" "Plan.read" (defArgs s_Plan_read) (defBody s_Plan_read) (defScope s_Plan_read) .none kV18 dc18 pm18 an18 cd18 ct18), sl18⟩) (c18 : PySem.W.codeIn K cd18 "Plan.read" = true) (k18 : PySem.W.keepIn K (.ref f18) = true)
    (cr_Plan : PySem.W.readsIn K C_Plan (.type "type") = true) (cg_Plan : PySem.W.specialIn K (.ref C_Plan) "__getattribute__" = some (some (.builtin "type.__getattribute__")))
    {pA18 : Addr} {pR18 : List Value} (pm18 : PySem.W.findCls K (.ref C_Plan) (.type "type") "read" = some (.get (.builtin "classmethod.__get__") (.ref pA18) .none (.ref C_Plan))) (pr18 : PySem.W.recIn K pA18 "classmethod" = some (.ref f18 :: pR18)) (pf18 : PySem.W.fnIn K f18 = true)
    {C_Slip : Addr} (aC_Slip : PySem.W.nsIn K mainGlobals "Slip" = some (some (.ref C_Slip)))
    (pg_Slip : PySem.W.plainGet K C_Slip Str.empty = true)
    (hd_Slip : PySem.W.hasDictIn K C_Slip = true)
    (po_Slip : PySem.W.plainOver K C_Slip = true)
    (sa_Slip : PySem.W.findIn K (.ref C_Slip) "__setattr__" = some (some (.builtin "object.__setattr__")))
    (mk_Slip : PySem.W.makesIn K C_Slip = true)
    (kc_Slip : PySem.W.keepIn K (.ref C_Slip) = true)
    (n_kind_Slip : PySem.W.findIn K (.ref C_Slip) "kind" = some none)
    (n_turn_Slip : PySem.W.findIn K (.ref C_Slip) "turn" = some none)
    (n_machine_Slip : PySem.W.findIn K (.ref C_Slip) "machine" = some none)
    (n_lane_Slip : PySem.W.findIn K (.ref C_Slip) "lane" = some none)
    {f19 : Addr} {od19 an19 : Option Addr} {sl19 : Array (Option Value)} {oc19 kV19 dc19 pm19 cd19 ct19 : Value}
    (l19 : K.lookup f19 = some ⟨oc19, od19, .func (PySem.W.fnOf "__init__" "Slip.__init__" (defArgs s_Slip___init__) (defBody s_Slip___init__) (defScope s_Slip___init__) .none kV19 dc19 pm19 an19 cd19 ct19), sl19⟩) (c19 : PySem.W.codeIn K cd19 "Slip.__init__" = true) (k19 : PySem.W.keepIn K (.ref f19) = true)
    (a19 : PySem.W.findIn K (.ref C_Slip) "__init__" = some (some (.ref f19))) (i19 : PySem.W.isFn K (.ref f19) = true)
    {C_Played : Addr} (aC_Played : PySem.W.nsIn K mainGlobals "Played" = some (some (.ref C_Played)))
    (pg_Played : PySem.W.plainGet K C_Played Str.empty = true)
    (hd_Played : PySem.W.hasDictIn K C_Played = true)
    (po_Played : PySem.W.plainOver K C_Played = true)
    (sa_Played : PySem.W.findIn K (.ref C_Played) "__setattr__" = some (some (.builtin "object.__setattr__")))
    (mk_Played : PySem.W.makesIn K C_Played = true)
    (kc_Played : PySem.W.keepIn K (.ref C_Played) = true)
    (n_rows_Played : PySem.W.findIn K (.ref C_Played) "rows" = some none)
    (n_sums_Played : PySem.W.findIn K (.ref C_Played) "sums" = some none)
    (n_is_right_Played : PySem.W.findIn K (.ref C_Played) "is_right" = some none)
    (n_sent_Played : PySem.W.findIn K (.ref C_Played) "sent" = some none)
    {f20 : Addr} {od20 an20 : Option Addr} {sl20 : Array (Option Value)} {oc20 kV20 dc20 pm20 cd20 ct20 : Value}
    (l20 : K.lookup f20 = some ⟨oc20, od20, .func (PySem.W.fnOf "__init__" "Played.__init__" (defArgs s_Played___init__) (defBody s_Played___init__) (defScope s_Played___init__) .none kV20 dc20 pm20 an20 cd20 ct20), sl20⟩) (c20 : PySem.W.codeIn K cd20 "Played.__init__" = true) (k20 : PySem.W.keepIn K (.ref f20) = true)
    (a20 : PySem.W.findIn K (.ref C_Played) "__init__" = some (some (.ref f20))) (i20 : PySem.W.isFn K (.ref f20) = true)
    (spec : PySem.W.specialIn K (.builtin "object.__class__") "__get__" = some (some (.builtin "getset_descriptor.__get__"))) (takes : PySem.W.takesIn K (.builtin "object.__class__") = some true)
    (kit_Lane_Form : PySem.W.kitOne K (.ref C_Lane) (.ref C_Form) = some false)
    (kit_Block_Lane : PySem.W.kitOne K (.ref C_Block) (.ref C_Lane) = some false)
    (kit_InvalidRows_RingError : PySem.W.kitOne K (.ref C_InvalidRows) (.ref C_RingError) = some true)
    (kit_InvalidRows_InvalidPlan : PySem.W.kitOne K (.ref C_InvalidRows) (.ref C_InvalidPlan) = some false)
    (kit_InvalidRows_InvalidSlip : PySem.W.kitOne K (.ref C_InvalidRows) (.ref C_InvalidSlip) = some false)
    {A_WAYS : Addr} {dd_WAYS : Option Addr} {n_WAYS : Nat} {sl_WAYS : Array (Option Value)} {t_WAYS0 : Tok} {t_WAYS1 : Tok}
    (a_WAYS : PySem.W.nsIn K mainGlobals "WAYS" = some (some (.ref A_WAYS))) (l_WAYS : K.lookup A_WAYS = some ⟨.type "tuple", dd_WAYS, .seq [Value.str "up" t_WAYS0, Value.str "down" t_WAYS1].toArray n_WAYS, sl_WAYS⟩)
    {A_SIGNS : Addr} {dd_SIGNS : Option Addr} {n_SIGNS : Nat} {sl_SIGNS : Array (Option Value)} {t_SIGNS0 : Tok} {t_SIGNS1 : Tok}
    (a_SIGNS : PySem.W.nsIn K mainGlobals "SIGNS" = some (some (.ref A_SIGNS))) (l_SIGNS : K.lookup A_SIGNS = some ⟨.type "tuple", dd_SIGNS, .seq [Value.str "+" t_SIGNS0, Value.str "-" t_SIGNS1].toArray n_SIGNS, sl_SIGNS⟩)
    {A_DEEDS : Addr} {dd_DEEDS : Option Addr} {n_DEEDS : Nat} {sl_DEEDS : Array (Option Value)} {t_DEEDS0 : Tok} {t_DEEDS1 : Tok}
    (a_DEEDS : PySem.W.nsIn K mainGlobals "DEEDS" = some (some (.ref A_DEEDS))) (l_DEEDS : K.lookup A_DEEDS = some ⟨.type "tuple", dd_DEEDS, .seq [Value.str "add" t_DEEDS0, Value.str "put" t_DEEDS1].toArray n_DEEDS, sl_DEEDS⟩)
    {A_STEPS : Addr} (a_STEPS : PySem.W.nsIn K mainGlobals "STEPS" = some (some (.ref A_STEPS)))
    {es_STEPS : Array DictEntry} {en_STEPS : Nat} (l_STEPS : K.lookup A_STEPS = some ⟨.type "dict", none, .dict es_STEPS en_STEPS, #[]⟩) (kl_STEPS : PySem.W.KeysLit w.params es_STEPS.toList)
    {kt_STEPS0 : Tok} (kv_STEPS0 : PySem.W.nsIn K A_STEPS "up" = some (some (Value.int (1) kt_STEPS0)))
    {kt_STEPS1 : Tok} (kv_STEPS1 : PySem.W.nsIn K A_STEPS "down" = some (some (Value.int (-1) kt_STEPS1)))
    {A_KINDS : Addr} {dd_KINDS : Option Addr} {n_KINDS : Nat} {sl_KINDS : Array (Option Value)} {t_KINDS0 : Tok} {t_KINDS1 : Tok}
    (a_KINDS : PySem.W.nsIn K mainGlobals "KINDS" = some (some (.ref A_KINDS))) (l_KINDS : K.lookup A_KINDS = some ⟨.type "tuple", dd_KINDS, .seq [Value.str "again" t_KINDS0, Value.str "lost" t_KINDS1].toArray n_KINDS, sl_KINDS⟩)
    {A_COMINGS : Addr} (a_COMINGS : PySem.W.nsIn K mainGlobals "COMINGS" = some (some (.ref A_COMINGS)))
    {es_COMINGS : Array DictEntry} {en_COMINGS : Nat} (l_COMINGS : K.lookup A_COMINGS = some ⟨.type "dict", none, .dict es_COMINGS en_COMINGS, #[]⟩) (kl_COMINGS : PySem.W.KeysLit w.params es_COMINGS.toList)
    {kt_COMINGS0 : Tok} (kv_COMINGS0 : PySem.W.nsIn K A_COMINGS "again" = some (some (Value.int (2) kt_COMINGS0)))
    {kt_COMINGS1 : Tok} (kv_COMINGS1 : PySem.W.nsIn K A_COMINGS "lost" = some (some (Value.int (0) kt_COMINGS1)))
    {f21 : Addr} {od21 an21 : Option Addr} {sl21 : Array (Option Value)} {oc21 kV21 dc21 pm21 cd21 ct21 : Value}
    (l21 : K.lookup f21 = some ⟨oc21, od21, .func (PySem.W.fnOf "is_whole" "is_whole" (defArgs s_is_whole) (defBody s_is_whole) (defScope s_is_whole) .none kV21 dc21 pm21 an21 cd21 ct21), sl21⟩) (c21 : PySem.W.codeIn K cd21 "is_whole" = true) (k21 : PySem.W.keepIn K (.ref f21) = true)
    (a21 : PySem.W.nsIn K mainGlobals "is_whole" = some (some (.ref f21)))
    {f22 : Addr} {od22 an22 : Option Addr} {sl22 : Array (Option Value)} {oc22 kV22 dc22 pm22 cd22 ct22 : Value}
    (l22 : K.lookup f22 = some ⟨oc22, od22, .func (PySem.W.fnOf "is_number" "is_number" (defArgs s_is_number) (defBody s_is_number) (defScope s_is_number) .none kV22 dc22 pm22 an22 cd22 ct22), sl22⟩) (c22 : PySem.W.codeIn K cd22 "is_number" = true) (k22 : PySem.W.keepIn K (.ref f22) = true)
    (a22 : PySem.W.nsIn K mainGlobals "is_number" = some (some (.ref f22)))
    {f23 : Addr} {od23 an23 : Option Addr} {sl23 : Array (Option Value)} {oc23 kV23 dc23 pm23 cd23 ct23 : Value}
    (l23 : K.lookup f23 = some ⟨oc23, od23, .func (PySem.W.fnOf "is_sequence" "is_sequence" (defArgs s_is_sequence) (defBody s_is_sequence) (defScope s_is_sequence) .none kV23 dc23 pm23 an23 cd23 ct23), sl23⟩) (c23 : PySem.W.codeIn K cd23 "is_sequence" = true) (k23 : PySem.W.keepIn K (.ref f23) = true)
    (a23 : PySem.W.nsIn K mainGlobals "is_sequence" = some (some (.ref f23)))
    {f24 : Addr} {od24 an24 : Option Addr} {sl24 : Array (Option Value)} {oc24 kV24 dc24 pm24 cd24 ct24 : Value}
    (l24 : K.lookup f24 = some ⟨oc24, od24, .func (PySem.W.fnOf "whole_in" "whole_in" (defArgs s_whole_in) (defBody s_whole_in) (defScope s_whole_in) .none kV24 dc24 pm24 an24 cd24 ct24), sl24⟩) (c24 : PySem.W.codeIn K cd24 "whole_in" = true) (k24 : PySem.W.keepIn K (.ref f24) = true)
    (a24 : PySem.W.nsIn K mainGlobals "whole_in" = some (some (.ref f24)))
    {f25 : Addr} {od25 an25 : Option Addr} {sl25 : Array (Option Value)} {oc25 kV25 dc25 pm25 cd25 ct25 : Value}
    (l25 : K.lookup f25 = some ⟨oc25, od25, .func (PySem.W.fnOf "_text" "_text" (defArgs s__text) (defBody s__text) (defScope s__text) .none kV25 dc25 pm25 an25 cd25 ct25), sl25⟩) (c25 : PySem.W.codeIn K cd25 "_text" = true) (k25 : PySem.W.keepIn K (.ref f25) = true)
    (a25 : PySem.W.nsIn K mainGlobals "_text" = some (some (.ref f25)))
    {f26 : Addr} {od26 an26 : Option Addr} {sl26 : Array (Option Value)} {oc26 kV26 dc26 pm26 cd26 ct26 : Value}
    (l26 : K.lookup f26 = some ⟨oc26, od26, .func (PySem.W.fnOf "_upper" "_upper" (defArgs s__upper) (defBody s__upper) (defScope s__upper) .none kV26 dc26 pm26 an26 cd26 ct26), sl26⟩) (c26 : PySem.W.codeIn K cd26 "_upper" = true) (k26 : PySem.W.keepIn K (.ref f26) = true)
    (a26 : PySem.W.nsIn K mainGlobals "_upper" = some (some (.ref f26)))
    {f27 : Addr} {od27 an27 : Option Addr} {sl27 : Array (Option Value)} {oc27 kV27 dc27 pm27 cd27 ct27 : Value}
    (l27 : K.lookup f27 = some ⟨oc27, od27, .func (PySem.W.fnOf "_parts" "_parts" (defArgs s__parts) (defBody s__parts) (defScope s__parts) .none kV27 dc27 pm27 an27 cd27 ct27), sl27⟩) (c27 : PySem.W.codeIn K cd27 "_parts" = true) (k27 : PySem.W.keepIn K (.ref f27) = true)
    (a27 : PySem.W.nsIn K mainGlobals "_parts" = some (some (.ref f27)))
    {f28 : Addr} {od28 an28 : Option Addr} {sl28 : Array (Option Value)} {oc28 kV28 dc28 pm28 cd28 ct28 : Value}
    (l28 : K.lookup f28 = some ⟨oc28, od28, .func (PySem.W.fnOf "_upper_parts" "_upper_parts" (defArgs s__upper_parts) (defBody s__upper_parts) (defScope s__upper_parts) .none kV28 dc28 pm28 an28 cd28 ct28), sl28⟩) (c28 : PySem.W.codeIn K cd28 "_upper_parts" = true) (k28 : PySem.W.keepIn K (.ref f28) = true)
    (a28 : PySem.W.nsIn K mainGlobals "_upper_parts" = some (some (.ref f28)))
    {f29 : Addr} {od29 an29 : Option Addr} {sl29 : Array (Option Value)} {oc29 kV29 dc29 pm29 cd29 ct29 : Value}
    (l29 : K.lookup f29 = some ⟨oc29, od29, .func (PySem.W.fnOf "_factor" "_factor" (defArgs s__factor) (defBody s__factor) (defScope s__factor) .none kV29 dc29 pm29 an29 cd29 ct29), sl29⟩) (c29 : PySem.W.codeIn K cd29 "_factor" = true) (k29 : PySem.W.keepIn K (.ref f29) = true)
    (a29 : PySem.W.nsIn K mainGlobals "_factor" = some (some (.ref f29)))
    {f30 : Addr} {od30 an30 : Option Addr} {sl30 : Array (Option Value)} {oc30 kV30 dc30 pm30 cd30 ct30 : Value}
    (l30 : K.lookup f30 = some ⟨oc30, od30, .func (PySem.W.fnOf "_blocks_in" "_blocks_in" (defArgs s__blocks_in) (defBody s__blocks_in) (defScope s__blocks_in) .none kV30 dc30 pm30 an30 cd30 ct30), sl30⟩) (c30 : PySem.W.codeIn K cd30 "_blocks_in" = true) (k30 : PySem.W.keepIn K (.ref f30) = true)
    (a30 : PySem.W.nsIn K mainGlobals "_blocks_in" = some (some (.ref f30)))
    {f31 : Addr} {od31 an31 : Option Addr} {sl31 : Array (Option Value)} {oc31 kV31 dc31 pm31 cd31 ct31 : Value}
    (l31 : K.lookup f31 = some ⟨oc31, od31, .func (PySem.W.fnOf "_rounds_in" "_rounds_in" (defArgs s__rounds_in) (defBody s__rounds_in) (defScope s__rounds_in) .none kV31 dc31 pm31 an31 cd31 ct31), sl31⟩) (c31 : PySem.W.codeIn K cd31 "_rounds_in" = true) (k31 : PySem.W.keepIn K (.ref f31) = true)
    (a31 : PySem.W.nsIn K mainGlobals "_rounds_in" = some (some (.ref f31)))
    {f32 : Addr} {od32 an32 : Option Addr} {sl32 : Array (Option Value)} {oc32 kV32 dc32 pm32 cd32 ct32 : Value}
    (l32 : K.lookup f32 = some ⟨oc32, od32, .func (PySem.W.fnOf "_lane_in" "_lane_in" (defArgs s__lane_in) (defBody s__lane_in) (defScope s__lane_in) .none kV32 dc32 pm32 an32 cd32 ct32), sl32⟩) (c32 : PySem.W.codeIn K cd32 "_lane_in" = true) (k32 : PySem.W.keepIn K (.ref f32) = true)
    (a32 : PySem.W.nsIn K mainGlobals "_lane_in" = some (some (.ref f32)))
    {f33 : Addr} {od33 an33 : Option Addr} {sl33 : Array (Option Value)} {oc33 kV33 dc33 pm33 cd33 ct33 : Value}
    (l33 : K.lookup f33 = some ⟨oc33, od33, .func (PySem.W.fnOf "cuts" "cuts" (defArgs s_cuts) (defBody s_cuts) (defScope s_cuts) .none kV33 dc33 pm33 an33 cd33 ct33), sl33⟩) (c33 : PySem.W.codeIn K cd33 "cuts" = true) (k33 : PySem.W.keepIn K (.ref f33) = true)
    (a33 : PySem.W.nsIn K mainGlobals "cuts" = some (some (.ref f33)))
    {f34 : Addr} {od34 an34 : Option Addr} {sl34 : Array (Option Value)} {oc34 kV34 dc34 pm34 cd34 ct34 : Value}
    {T34 : Addr} {dd34 : Option Addr} {dn34 : Nat} {dsl34 : Array (Option Value)} {eD_play_0 : Addr}
    (t34 : K.lookup T34 = some ⟨.type "tuple", dd34, .seq [Value.ref eD_play_0].toArray dn34, dsl34⟩)
    (l34 : K.lookup f34 = some ⟨oc34, od34, .func (PySem.W.fnOf "play" "play" (defArgs s_play) (defBody s_play) (defScope s_play) (.ref T34) kV34 dc34 pm34 an34 cd34 ct34), sl34⟩) (c34 : PySem.W.codeIn K cd34 "play" = true) (k34 : PySem.W.keepIn K (.ref f34) = true)
    {eC_play_0 : Option Addr} {eN_play_0 : Nat} {eS_play_0 : Array (Option Value)} (lD_play_0 : K.lookup eD_play_0 = some ⟨.type "tuple", eC_play_0, .seq ([] : List Value).toArray eN_play_0, eS_play_0⟩)
    (a34 : PySem.W.nsIn K mainGlobals "play" = some (some (.ref f34)))
    {f35 : Addr} {od35 an35 : Option Addr} {sl35 : Array (Option Value)} {oc35 kV35 dc35 pm35 cd35 ct35 : Value}
    (l35 : K.lookup f35 = some ⟨oc35, od35, .func (PySem.W.fnOf "rows_after" "rows_after" (defArgs s_rows_after) (defBody s_rows_after) (defScope s_rows_after) .none kV35 dc35 pm35 an35 cd35 ct35), sl35⟩) (c35 : PySem.W.codeIn K cd35 "rows_after" = true) (k35 : PySem.W.keepIn K (.ref f35) = true)
    (a35 : PySem.W.nsIn K mainGlobals "rows_after" = some (some (.ref f35)))
    {f36 : Addr} {od36 an36 : Option Addr} {sl36 : Array (Option Value)} {oc36 kV36 dc36 pm36 cd36 ct36 : Value}
    (l36 : K.lookup f36 = some ⟨oc36, od36, .func (PySem.W.fnOf "_cells_after" "_cells_after" (defArgs s__cells_after) (defBody s__cells_after) (defScope s__cells_after) .none kV36 dc36 pm36 an36 cd36 ct36), sl36⟩) (c36 : PySem.W.codeIn K cd36 "_cells_after" = true) (k36 : PySem.W.keepIn K (.ref f36) = true)
    (a36 : PySem.W.nsIn K mainGlobals "_cells_after" = some (some (.ref f36)))
    {f37 : Addr} {od37 an37 : Option Addr} {sl37 : Array (Option Value)} {oc37 kV37 dc37 pm37 cd37 ct37 : Value}
    (l37 : K.lookup f37 = some ⟨oc37, od37, .func (PySem.W.fnOf "check_rows" "check_rows" (defArgs s_check_rows) (defBody s_check_rows) (defScope s_check_rows) .none kV37 dc37 pm37 an37 cd37 ct37), sl37⟩) (c37 : PySem.W.codeIn K cd37 "check_rows" = true) (k37 : PySem.W.keepIn K (.ref f37) = true)
    (a37 : PySem.W.nsIn K mainGlobals "check_rows" = some (some (.ref f37)))
    {f38 : Addr} {od38 an38 : Option Addr} {sl38 : Array (Option Value)} {oc38 kV38 dc38 pm38 cd38 ct38 : Value}
    (l38 : K.lookup f38 = some ⟨oc38, od38, .func (PySem.W.fnOf "_is_row" "_is_row" (defArgs s__is_row) (defBody s__is_row) (defScope s__is_row) .none kV38 dc38 pm38 an38 cd38 ct38), sl38⟩) (c38 : PySem.W.codeIn K cd38 "_is_row" = true) (k38 : PySem.W.keepIn K (.ref f38) = true)
    (a38 : PySem.W.nsIn K mainGlobals "_is_row" = some (some (.ref f38)))
    {f39 : Addr} {od39 an39 : Option Addr} {sl39 : Array (Option Value)} {oc39 kV39 dc39 pm39 cd39 ct39 : Value}
    (l39 : K.lookup f39 = some ⟨oc39, od39, .func (PySem.W.fnOf "comings_of" "comings_of" (defArgs s_comings_of) (defBody s_comings_of) (defScope s_comings_of) .none kV39 dc39 pm39 an39 cd39 ct39), sl39⟩) (c39 : PySem.W.codeIn K cd39 "comings_of" = true) (k39 : PySem.W.keepIn K (.ref f39) = true)
    (a39 : PySem.W.nsIn K mainGlobals "comings_of" = some (some (.ref f39)))
    {f40 : Addr} {od40 an40 : Option Addr} {sl40 : Array (Option Value)} {oc40 kV40 dc40 pm40 cd40 ct40 : Value}
    (l40 : K.lookup f40 = some ⟨oc40, od40, .func (PySem.W.fnOf "_is_there" "_is_there" (defArgs s__is_there) (defBody s__is_there) (defScope s__is_there) .none kV40 dc40 pm40 an40 cd40 ct40), sl40⟩) (c40 : PySem.W.codeIn K cd40 "_is_there" = true) (k40 : PySem.W.keepIn K (.ref f40) = true)
    (a40 : PySem.W.nsIn K mainGlobals "_is_there" = some (some (.ref f40)))
    {f41 : Addr} {od41 an41 : Option Addr} {sl41 : Array (Option Value)} {oc41 kV41 dc41 pm41 cd41 ct41 : Value}
    (l41 : K.lookup f41 = some ⟨oc41, od41, .func (PySem.W.fnOf "turns_of" "turns_of" (defArgs s_turns_of) (defBody s_turns_of) (defScope s_turns_of) .none kV41 dc41 pm41 an41 cd41 ct41), sl41⟩) (c41 : PySem.W.codeIn K cd41 "turns_of" = true) (k41 : PySem.W.keepIn K (.ref f41) = true)
    (a41 : PySem.W.nsIn K mainGlobals "turns_of" = some (some (.ref f41)))
    {f42 : Addr} {od42 an42 : Option Addr} {sl42 : Array (Option Value)} {oc42 kV42 dc42 pm42 cd42 ct42 : Value}
    (l42 : K.lookup f42 = some ⟨oc42, od42, .func (PySem.W.fnOf "drift" "drift" (defArgs s_drift) (defBody s_drift) (defScope s_drift) .none kV42 dc42 pm42 an42 cd42 ct42), sl42⟩) (c42 : PySem.W.codeIn K cd42 "drift" = true) (k42 : PySem.W.keepIn K (.ref f42) = true)
    (a42 : PySem.W.nsIn K mainGlobals "drift" = some (some (.ref f42)))
    {f43 : Addr} {od43 an43 : Option Addr} {sl43 : Array (Option Value)} {oc43 kV43 dc43 pm43 cd43 ct43 : Value}
    (l43 : K.lookup f43 = some ⟨oc43, od43, .func (PySem.W.fnOf "hops_in" "hops_in" (defArgs s_hops_in) (defBody s_hops_in) (defScope s_hops_in) .none kV43 dc43 pm43 an43 cd43 ct43), sl43⟩) (c43 : PySem.W.codeIn K cd43 "hops_in" = true) (k43 : PySem.W.keepIn K (.ref f43) = true)
    (a43 : PySem.W.nsIn K mainGlobals "hops_in" = some (some (.ref f43)))
    {f44 : Addr} {od44 an44 : Option Addr} {sl44 : Array (Option Value)} {oc44 kV44 dc44 pm44 cd44 ct44 : Value}
    (l44 : K.lookup f44 = some ⟨oc44, od44, .func (PySem.W.fnOf "with_slips" "with_slips" (defArgs s_with_slips) (defBody s_with_slips) (defScope s_with_slips) .none kV44 dc44 pm44 an44 cd44 ct44), sl44⟩) (c44 : PySem.W.codeIn K cd44 "with_slips" = true) (k44 : PySem.W.keepIn K (.ref f44) = true)
    (a44 : PySem.W.nsIn K mainGlobals "with_slips" = some (some (.ref f44)))
    {f45 : Addr} {od45 an45 : Option Addr} {sl45 : Array (Option Value)} {oc45 kV45 dc45 pm45 cd45 ct45 : Value}
    (l45 : K.lookup f45 = some ⟨oc45, od45, .func (PySem.W.fnOf "do_hops" "do_hops" (defArgs s_do_hops) (defBody s_do_hops) (defScope s_do_hops) .none kV45 dc45 pm45 an45 cd45 ct45), sl45⟩) (c45 : PySem.W.codeIn K cd45 "do_hops" = true) (k45 : PySem.W.keepIn K (.ref f45) = true)
    (a45 : PySem.W.nsIn K mainGlobals "do_hops" = some (some (.ref f45)))
    {f46 : Addr} {od46 an46 : Option Addr} {sl46 : Array (Option Value)} {oc46 kV46 dc46 pm46 cd46 ct46 : Value}
    (l46 : K.lookup f46 = some ⟨oc46, od46, .func (PySem.W.fnOf "added" "added" (defArgs s_added) (defBody s_added) (defScope s_added) .none kV46 dc46 pm46 an46 cd46 ct46), sl46⟩) (c46 : PySem.W.codeIn K cd46 "added" = true) (k46 : PySem.W.keepIn K (.ref f46) = true)
    (a46 : PySem.W.nsIn K mainGlobals "added" = some (some (.ref f46)))
    {f47 : Addr} {od47 an47 : Option Addr} {sl47 : Array (Option Value)} {oc47 kV47 dc47 pm47 cd47 ct47 : Value}
    (l47 : K.lookup f47 = some ⟨oc47, od47, .func (PySem.W.fnOf "columns_of" "columns_of" (defArgs s_columns_of) (defBody s_columns_of) (defScope s_columns_of) .none kV47 dc47 pm47 an47 cd47 ct47), sl47⟩) (c47 : PySem.W.codeIn K cd47 "columns_of" = true) (k47 : PySem.W.keepIn K (.ref f47) = true)
    (a47 : PySem.W.nsIn K mainGlobals "columns_of" = some (some (.ref f47)))
    {f48 : Addr} {od48 an48 : Option Addr} {sl48 : Array (Option Value)} {oc48 kV48 dc48 pm48 cd48 ct48 : Value}
    (l48 : K.lookup f48 = some ⟨oc48, od48, .func (PySem.W.fnOf "rows_of" "rows_of" (defArgs s_rows_of) (defBody s_rows_of) (defScope s_rows_of) .none kV48 dc48 pm48 an48 cd48 ct48), sl48⟩) (c48 : PySem.W.codeIn K cd48 "rows_of" = true) (k48 : PySem.W.keepIn K (.ref f48) = true)
    (a48 : PySem.W.nsIn K mainGlobals "rows_of" = some (some (.ref f48)))
    {f49 : Addr} {od49 an49 : Option Addr} {sl49 : Array (Option Value)} {oc49 kV49 dc49 pm49 cd49 ct49 : Value}
    (l49 : K.lookup f49 = some ⟨oc49, od49, .func (PySem.W.fnOf "sums_of" "sums_of" (defArgs s_sums_of) (defBody s_sums_of) (defScope s_sums_of) .none kV49 dc49 pm49 an49 cd49 ct49), sl49⟩) (c49 : PySem.W.codeIn K cd49 "sums_of" = true) (k49 : PySem.W.keepIn K (.ref f49) = true)
    (a49 : PySem.W.nsIn K mainGlobals "sums_of" = some (some (.ref f49)))
    {f50 : Addr} {od50 an50 : Option Addr} {sl50 : Array (Option Value)} {oc50 kV50 dc50 pm50 cd50 ct50 : Value}
    (l50 : K.lookup f50 = some ⟨oc50, od50, .func (PySem.W.fnOf "are_all" "are_all" (defArgs s_are_all) (defBody s_are_all) (defScope s_are_all) .none kV50 dc50 pm50 an50 cd50 ct50), sl50⟩) (c50 : PySem.W.codeIn K cd50 "are_all" = true) (k50 : PySem.W.keepIn K (.ref f50) = true)
    (a50 : PySem.W.nsIn K mainGlobals "are_all" = some (some (.ref f50)))
    {f51 : Addr} {od51 an51 : Option Addr} {sl51 : Array (Option Value)} {oc51 kV51 dc51 pm51 cd51 ct51 : Value}
    (l51 : K.lookup f51 = some ⟨oc51, od51, .func (PySem.W.fnOf "handed_on" "handed_on" (defArgs s_handed_on) (defBody s_handed_on) (defScope s_handed_on) .none kV51 dc51 pm51 an51 cd51 ct51), sl51⟩) (c51 : PySem.W.codeIn K cd51 "handed_on" = true) (k51 : PySem.W.keepIn K (.ref f51) = true)
    (a51 : PySem.W.nsIn K mainGlobals "handed_on" = some (some (.ref f51)))
    {f52 : Addr} {od52 an52 : Option Addr} {sl52 : Array (Option Value)} {oc52 kV52 dc52 pm52 cd52 ct52 : Value}
    (l52 : K.lookup f52 = some ⟨oc52, od52, .func (PySem.W.fnOf "_law_box" "_law_box" (defArgs s__law_box) (defBody s__law_box) (defScope s__law_box) .none kV52 dc52 pm52 an52 cd52 ct52), sl52⟩) (c52 : PySem.W.codeIn K cd52 "_law_box" = true) (k52 : PySem.W.keepIn K (.ref f52) = true)
    (a52 : PySem.W.nsIn K mainGlobals "_law_box" = some (some (.ref f52)))
    {f53 : Addr} {od53 an53 : Option Addr} {sl53 : Array (Option Value)} {oc53 kV53 dc53 pm53 cd53 ct53 : Value}
    (l53 : K.lookup f53 = some ⟨oc53, od53, .func (PySem.W.fnOf "_law_take" "_law_take" (defArgs s__law_take) (defBody s__law_take) (defScope s__law_take) .none kV53 dc53 pm53 an53 cd53 ct53), sl53⟩) (c53 : PySem.W.codeIn K cd53 "_law_take" = true) (k53 : PySem.W.keepIn K (.ref f53) = true)
    (a53 : PySem.W.nsIn K mainGlobals "_law_take" = some (some (.ref f53)))
    {f54 : Addr} {od54 an54 : Option Addr} {sl54 : Array (Option Value)} {oc54 kV54 dc54 pm54 cd54 ct54 : Value}
    (l54 : K.lookup f54 = some ⟨oc54, od54, .func (PySem.W.fnOf "_law_pick" "_law_pick" (defArgs s__law_pick) (defBody s__law_pick) (defScope s__law_pick) .none kV54 dc54 pm54 an54 cd54 ct54), sl54⟩) (c54 : PySem.W.codeIn K cd54 "_law_pick" = true) (k54 : PySem.W.keepIn K (.ref f54) = true)
    (a54 : PySem.W.nsIn K mainGlobals "_law_pick" = some (some (.ref f54)))
    {f55 : Addr} {od55 an55 : Option Addr} {sl55 : Array (Option Value)} {oc55 kV55 dc55 pm55 cd55 ct55 : Value}
    (l55 : K.lookup f55 = some ⟨oc55, od55, .func (PySem.W.fnOf "_law_form_text" "_law_form_text" (defArgs s__law_form_text) (defBody s__law_form_text) (defScope s__law_form_text) .none kV55 dc55 pm55 an55 cd55 ct55), sl55⟩) (c55 : PySem.W.codeIn K cd55 "_law_form_text" = true) (k55 : PySem.W.keepIn K (.ref f55) = true)
    (a55 : PySem.W.nsIn K mainGlobals "_law_form_text" = some (some (.ref f55)))
    {f56 : Addr} {od56 an56 : Option Addr} {sl56 : Array (Option Value)} {oc56 kV56 dc56 pm56 cd56 ct56 : Value}
    (l56 : K.lookup f56 = some ⟨oc56, od56, .func (PySem.W.fnOf "_law_plan_text" "_law_plan_text" (defArgs s__law_plan_text) (defBody s__law_plan_text) (defScope s__law_plan_text) .none kV56 dc56 pm56 an56 cd56 ct56), sl56⟩) (c56 : PySem.W.codeIn K cd56 "_law_plan_text" = true) (k56 : PySem.W.keepIn K (.ref f56) = true)
    (a56 : PySem.W.nsIn K mainGlobals "_law_plan_text" = some (some (.ref f56)))
    {f57 : Addr} {od57 an57 : Option Addr} {sl57 : Array (Option Value)} {oc57 kV57 dc57 pm57 cd57 ct57 : Value}
    (l57 : K.lookup f57 = some ⟨oc57, od57, .func (PySem.W.fnOf "_law_plan_of" "_law_plan_of" (defArgs s__law_plan_of) (defBody s__law_plan_of) (defScope s__law_plan_of) .none kV57 dc57 pm57 an57 cd57 ct57), sl57⟩) (c57 : PySem.W.codeIn K cd57 "_law_plan_of" = true) (k57 : PySem.W.keepIn K (.ref f57) = true)
    (a57 : PySem.W.nsIn K mainGlobals "_law_plan_of" = some (some (.ref f57)))
    {f58 : Addr} {od58 an58 : Option Addr} {sl58 : Array (Option Value)} {oc58 kV58 dc58 pm58 cd58 ct58 : Value}
    (l58 : K.lookup f58 = some ⟨oc58, od58, .func (PySem.W.fnOf "_law_usual" "_law_usual" (defArgs s__law_usual) (defBody s__law_usual) (defScope s__law_usual) .none kV58 dc58 pm58 an58 cd58 ct58), sl58⟩) (c58 : PySem.W.codeIn K cd58 "_law_usual" = true) (k58 : PySem.W.keepIn K (.ref f58) = true)
    (a58 : PySem.W.nsIn K mainGlobals "_law_usual" = some (some (.ref f58)))
    {f59 : Addr} {od59 an59 : Option Addr} {sl59 : Array (Option Value)} {oc59 kV59 dc59 pm59 cd59 ct59 : Value}
    (l59 : K.lookup f59 = some ⟨oc59, od59, .func (PySem.W.fnOf "_law_integer" "_law_integer" (defArgs s__law_integer) (defBody s__law_integer) (defScope s__law_integer) .none kV59 dc59 pm59 an59 cd59 ct59), sl59⟩) (c59 : PySem.W.codeIn K cd59 "_law_integer" = true) (k59 : PySem.W.keepIn K (.ref f59) = true)
    (a59 : PySem.W.nsIn K mainGlobals "_law_integer" = some (some (.ref f59)))
    {f60 : Addr} {od60 an60 : Option Addr} {sl60 : Array (Option Value)} {oc60 kV60 dc60 pm60 cd60 ct60 : Value}
    (l60 : K.lookup f60 = some ⟨oc60, od60, .func (PySem.W.fnOf "_law_rows" "_law_rows" (defArgs s__law_rows) (defBody s__law_rows) (defScope s__law_rows) .none kV60 dc60 pm60 an60 cd60 ct60), sl60⟩) (c60 : PySem.W.codeIn K cd60 "_law_rows" = true) (k60 : PySem.W.keepIn K (.ref f60) = true)
    (a60 : PySem.W.nsIn K mainGlobals "_law_rows" = some (some (.ref f60)))
    {f61 : Addr} {od61 an61 : Option Addr} {sl61 : Array (Option Value)} {oc61 kV61 dc61 pm61 cd61 ct61 : Value}
    (l61 : K.lookup f61 = some ⟨oc61, od61, .func (PySem.W.fnOf "_law_any" "_law_any" (defArgs s__law_any) (defBody s__law_any) (defScope s__law_any) .none kV61 dc61 pm61 an61 cd61 ct61), sl61⟩) (c61 : PySem.W.codeIn K cd61 "_law_any" = true) (k61 : PySem.W.keepIn K (.ref f61) = true)
    (a61 : PySem.W.nsIn K mainGlobals "_law_any" = some (some (.ref f61)))
    {f62 : Addr} {od62 an62 : Option Addr} {sl62 : Array (Option Value)} {oc62 kV62 dc62 pm62 cd62 ct62 : Value}
    (l62 : K.lookup f62 = some ⟨oc62, od62, .func (PySem.W.fnOf "_law_due" "_law_due" (defArgs s__law_due) (defBody s__law_due) (defScope s__law_due) .none kV62 dc62 pm62 an62 cd62 ct62), sl62⟩) (c62 : PySem.W.codeIn K cd62 "_law_due" = true) (k62 : PySem.W.keepIn K (.ref f62) = true)
    (a62 : PySem.W.nsIn K mainGlobals "_law_due" = some (some (.ref f62)))
    {f63 : Addr} {od63 an63 : Option Addr} {sl63 : Array (Option Value)} {oc63 kV63 dc63 pm63 cd63 ct63 : Value}
    (l63 : K.lookup f63 = some ⟨oc63, od63, .func (PySem.W.fnOf "_law_refused" "_law_refused" (defArgs s__law_refused) (defBody s__law_refused) (defScope s__law_refused) .none kV63 dc63 pm63 an63 cd63 ct63), sl63⟩) (c63 : PySem.W.codeIn K cd63 "_law_refused" = true) (k63 : PySem.W.keepIn K (.ref f63) = true)
    (a63 : PySem.W.nsIn K mainGlobals "_law_refused" = some (some (.ref f63)))
    {f64 : Addr} {od64 an64 : Option Addr} {sl64 : Array (Option Value)} {oc64 kV64 dc64 pm64 cd64 ct64 : Value}
    (l64 : K.lookup f64 = some ⟨oc64, od64, .func (PySem.W.fnOf "law" "law" (defArgs s_law) (defBody s_law) (defScope s_law) .none kV64 dc64 pm64 an64 cd64 ct64), sl64⟩) (c64 : PySem.W.codeIn K cd64 "law" = true) (k64 : PySem.W.keepIn K (.ref f64) = true)
    (a64 : PySem.W.nsIn K mainGlobals "law" = some (some (.ref f64)))
    (z_abs : PySem.W.nsIn K mainGlobals "abs" = some none)
    (z_all : PySem.W.nsIn K mainGlobals "all" = some none)
    (z_bool : PySem.W.nsIn K mainGlobals "bool" = some none)
    (z_dict : PySem.W.nsIn K mainGlobals "dict" = some none)
    (z_enumerate : PySem.W.nsIn K mainGlobals "enumerate" = some none)
    (z_int : PySem.W.nsIn K mainGlobals "int" = some none)
    (z_isinstance : PySem.W.nsIn K mainGlobals "isinstance" = some none)
    (z_len : PySem.W.nsIn K mainGlobals "len" = some none)
    (z_list : PySem.W.nsIn K mainGlobals "list" = some none)
    (z_max : PySem.W.nsIn K mainGlobals "max" = some none)
    (z_min : PySem.W.nsIn K mainGlobals "min" = some none)
    (z_range : PySem.W.nsIn K mainGlobals "range" = some none)
    (z_repr : PySem.W.nsIn K mainGlobals "repr" = some none)
    (z_str : PySem.W.nsIn K mainGlobals "str" = some none)
    (z_sum : PySem.W.nsIn K mainGlobals "sum" = some none)
    (z_tuple : PySem.W.nsIn K mainGlobals "tuple" = some none)
    (z_zip : PySem.W.nsIn K mainGlobals "zip" = some none)
    : ∃ fd : FuncData, (∀ (s : Shared) (v : Value), BindsTo s fd ⟨[v], []⟩ [("_law_script", v)]) ∧ ∀ base : Heap, K.In base → base.Ns mainGlobals mg → At callerA l.prog w K mg base CX0 14 fa ["_law_script"] fd (spLaw K) := by
  have e := hfa.symm.trans (PySem.W.mg_of X G a64)
  cases e
  let T : Txt K mg := {
    c_RingError := C_RingError, m_RingError := PySem.W.mg_of X G aC_RingError,
    c_InvalidPlan := C_InvalidPlan, m_InvalidPlan := PySem.W.mg_of X G aC_InvalidPlan,
    c_InvalidRows := C_InvalidRows, m_InvalidRows := PySem.W.mg_of X G aC_InvalidRows,
    a_InvalidRows___init__ := f0, d_InvalidRows___init__ := _, F_InvalidRows___init__ := fun_mk (st := s_InvalidRows___init__) l0 c0 k0, b_InvalidRows___init__ := (fun_mk (st := s_InvalidRows___init__) l0 c0 k0).binds (ps := ["self", "at"]) (fun _ _ _ _ _ _ us hl => match us, hl with | [_, _], _ => rfl), k_InvalidRows___init__ := k0,
    x_InvalidRows := ⟨⟨_, _, _, _, _, _, _, _, _, _, _, _, _, _, _, xL_InvalidRows, by first | rfl | decide +kernel⟩, sa_InvalidRows, eC_InvalidRows, tC_InvalidRows, kC_InvalidRows⟩, X_InvalidRows := ⟨cl_InvalidRows, ga_InvalidRows, gg_InvalidRows, eC_InvalidRows, ca_InvalidRows, spec, takes, mo_InvalidRows⟩, f_InvalidRows := ⟨ga_InvalidRows, gg_InvalidRows, eC_InvalidRows, hC_InvalidRows⟩,
    n_InvalidRows := nw_InvalidRows, i_InvalidRows := iC_InvalidRows, t_InvalidRows := iT_InvalidRows, e_InvalidRows := PySem.W.exm_ref eC_InvalidRows hC_InvalidRows tC_InvalidRows sC_InvalidRows,
    c_InvalidSlip := C_InvalidSlip, m_InvalidSlip := PySem.W.mg_of X G aC_InvalidSlip,
    a_InvalidSlip___init__ := f1, d_InvalidSlip___init__ := _, F_InvalidSlip___init__ := fun_mk (st := s_InvalidSlip___init__) l1 c1 k1, b_InvalidSlip___init__ := (fun_mk (st := s_InvalidSlip___init__) l1 c1 k1).binds (ps := ["self", "word"]) (fun _ _ _ _ _ _ us hl => match us, hl with | [_, _], _ => rfl), k_InvalidSlip___init__ := k1,
    x_InvalidSlip := ⟨⟨_, _, _, _, _, _, _, _, _, _, _, _, _, _, _, xL_InvalidSlip, by first | rfl | decide +kernel⟩, sa_InvalidSlip, eC_InvalidSlip, tC_InvalidSlip, kC_InvalidSlip⟩, X_InvalidSlip := ⟨cl_InvalidSlip, ga_InvalidSlip, gg_InvalidSlip, eC_InvalidSlip, ca_InvalidSlip, spec, takes, mo_InvalidSlip⟩, f_InvalidSlip := ⟨ga_InvalidSlip, gg_InvalidSlip, eC_InvalidSlip, hC_InvalidSlip⟩,
    n_InvalidSlip := nw_InvalidSlip, i_InvalidSlip := iC_InvalidSlip, t_InvalidSlip := iT_InvalidSlip, e_InvalidSlip := PySem.W.exm_ref eC_InvalidSlip hC_InvalidSlip tC_InvalidSlip sC_InvalidSlip,
    c_Refused := C_Refused, m_Refused := PySem.W.mg_of X G aC_Refused,
    a_Refused___init__ := f2, d_Refused___init__ := _, F_Refused___init__ := fun_mk (st := s_Refused___init__) l2 c2 k2, b_Refused___init__ := (fun_mk (st := s_Refused___init__) l2 c2 k2).binds (ps := ["self", "at"]) (fun _ _ _ _ _ _ us hl => match us, hl with | [_, _], _ => rfl), k_Refused___init__ := k2,
    x_Refused := ⟨⟨_, _, _, _, _, _, _, _, _, _, _, _, _, _, _, xL_Refused, by first | rfl | decide +kernel⟩, sa_Refused, eC_Refused, tC_Refused, kC_Refused⟩, X_Refused := ⟨cl_Refused, ga_Refused, gg_Refused, eC_Refused, ca_Refused, spec, takes, mo_Refused⟩, f_Refused := ⟨ga_Refused, gg_Refused, eC_Refused, hC_Refused⟩,
    n_Refused := nw_Refused, i_Refused := iC_Refused, t_Refused := iT_Refused, e_Refused := PySem.W.exm_ref eC_Refused hC_Refused tC_Refused sC_Refused,
    c_Form := C_Form, m_Form := PySem.W.mg_of X G aC_Form,
    C_Form := ⟨pg_Form, hd_Form, po_Form, sa_Form⟩,
    n_Form_times := n_times_Form,
    n_Form_plus := n_plus_Form,
    n_Form_by := n_by_Form,
    F_Form := ⟨fo_Form, mo_Form⟩,
    I_Form := ⟨cl_Form, tC_Form, ca_Form, spec, takes, mo_Form⟩, N_Form := ⟨mo_N_Form, mo_S_Form, mo_T_Form, mo_L_Form, mo_I_Form⟩,
    a_Form___init__ := f3, d_Form___init__ := _, F_Form___init__ := (show FunD K "__init__" "Form.__init__" (defArgs s_Form___init__) (defBody s_Form___init__) (defScope s_Form___init__) [(.int 0), (.int 0), (.int 1)] [] _ _ from ⟨⟨_, _, _, _, _, _, _, _, _, _, rfl, l3, c3, .inr ⟨by simp, _, _, [Value.int 0 t3_0, Value.int 0 t3_1, Value.int 1 t3_2], _, rfl, t3, rfl, by repeat (first | exact .nil | refine .cons ⟨_, rfl⟩ ?_ | refine .cons rfl ?_)⟩, .inl rfl⟩, k3⟩), b_Form___init__ := (by obtain ⟨ds, rv, bb⟩ := (show FunD K "__init__" "Form.__init__" (defArgs s_Form___init__) (defBody s_Form___init__) (defScope s_Form___init__) [(.int 0), (.int 0), (.int 1)] [] _ _ from ⟨⟨_, _, _, _, _, _, _, _, _, _, rfl, l3, c3, .inr ⟨by simp, _, _, [Value.int 0 t3_0, Value.int 0 t3_1, Value.int 1 t3_2], _, rfl, t3, rfl, by repeat (first | exact .nil | refine .cons ⟨_, rfl⟩ ?_ | refine .cons rfl ?_)⟩, .inl rfl⟩, k3⟩).binds1 (ps := ["self", "times", "plus", "by"]) 4 3 (by simp) rfl (fun _ _ _ _ _ _ _ us its hl hi => match us, its, hl, hi with | [_, _, _, _], [_, _, _], _, _ => ⟨_, rfl, rfl⟩); cases rv; exact bb), k_Form___init__ := k3,
    D_Form___init__ := (show FunD K "__init__" "Form.__init__" (defArgs s_Form___init__) (defBody s_Form___init__) (defScope s_Form___init__) [(.int 0), (.int 0), (.int 1)] [] _ _ from ⟨⟨_, _, _, _, _, _, _, _, _, _, rfl, l3, c3, .inr ⟨by simp, _, _, [Value.int 0 t3_0, Value.int 0 t3_1, Value.int 1 t3_2], _, rfl, t3, rfl, by repeat (first | exact .nil | refine .cons ⟨_, rfl⟩ ?_ | refine .cons rfl ?_)⟩, .inl rfl⟩, k3⟩).binds1 (ps := ["self", "times", "plus", "by"]) 1 0 (by simp) rfl (fun _ _ _ _ _ _ _ us its hl hi => match us, its, hl, hi with | [_], [_, _, _], _, _ => ⟨_, rfl, rfl⟩),
    D1_Form___init__ := (show FunD K "__init__" "Form.__init__" (defArgs s_Form___init__) (defBody s_Form___init__) (defScope s_Form___init__) [(.int 0), (.int 0), (.int 1)] [] _ _ from ⟨⟨_, _, _, _, _, _, _, _, _, _, rfl, l3, c3, .inr ⟨by simp, _, _, [Value.int 0 t3_0, Value.int 0 t3_1, Value.int 1 t3_2], _, rfl, t3, rfl, by repeat (first | exact .nil | refine .cons ⟨_, rfl⟩ ?_ | refine .cons rfl ?_)⟩, .inl rfl⟩, k3⟩).binds1 (ps := ["self", "times", "plus", "by"]) 2 1 (by simp) rfl (fun _ _ _ _ _ _ _ us its hl hi => match us, its, hl, hi with | [_, _], [_, _, _], _, _ => ⟨_, rfl, rfl⟩),
    D2_Form___init__ := (show FunD K "__init__" "Form.__init__" (defArgs s_Form___init__) (defBody s_Form___init__) (defScope s_Form___init__) [(.int 0), (.int 0), (.int 1)] [] _ _ from ⟨⟨_, _, _, _, _, _, _, _, _, _, rfl, l3, c3, .inr ⟨by simp, _, _, [Value.int 0 t3_0, Value.int 0 t3_1, Value.int 1 t3_2], _, rfl, t3, rfl, by repeat (first | exact .nil | refine .cons ⟨_, rfl⟩ ?_ | refine .cons rfl ?_)⟩, .inl rfl⟩, k3⟩).binds1 (ps := ["self", "times", "plus", "by"]) 3 2 (by simp) rfl (fun _ _ _ _ _ _ _ us its hl hi => match us, its, hl, hi with | [_, _, _], [_, _, _], _, _ => ⟨_, rfl, rfl⟩),
    M_Form := ⟨mk_Form, a3, i3, kc_Form⟩,
    a_Form___call__ := f4, d_Form___call__ := _, F_Form___call__ := fun_mk (st := s_Form___call__) l4 c4 k4, b_Form___call__ := (fun_mk (st := s_Form___call__) l4 c4 k4).binds (ps := ["self", "n"]) (fun _ _ _ _ _ _ us hl => match us, hl with | [_, _], _ => rfl), k_Form___call__ := k4,
    fn_Form___call__ := fi4,
    M_Form___call__ := ⟨a4, i4, k4⟩,
    a_Form___eq__ := f5, d_Form___eq__ := _, F_Form___eq__ := fun_mk (st := s_Form___eq__) l5 c5 k5, b_Form___eq__ := (fun_mk (st := s_Form___eq__) l5 c5 k5).binds (ps := ["self", "other"]) (fun _ _ _ _ _ _ us hl => match us, hl with | [_, _], _ => rfl), k_Form___eq__ := k5,
    O_Form := ⟨a5, i5, nE_Form, mo_Form⟩,
    a_Form___str__ := f6, d_Form___str__ := _, F_Form___str__ := fun_mk (st := s_Form___str__) l6 c6 k6, b_Form___str__ := (fun_mk (st := s_Form___str__) l6 c6 k6).binds (ps := ["self"]) (fun _ _ _ _ _ _ us hl => match us, hl with | [_], _ => rfl), k_Form___str__ := k6,
    M_Form___str__ := ⟨a6, i6, k6⟩,
    a_Form_read := f7, d_Form_read := _, F_Form_read := fun_mk (st := s_Form_read) l7 c7 k7, b_Form_read := (fun_mk (st := s_Form_read) l7 c7 k7).binds (ps := ["cls", "text"]) (fun _ _ _ _ _ _ us hl => match us, hl with | [_, _], _ => rfl), k_Form_read := k7,
    R_Form := ⟨cr_Form, cg_Form⟩,
    p_Form_read := pA7, G_Form_read := ⟨pm7, ⟨_, pr7⟩, pf7⟩,
    c_Lane := C_Lane, m_Lane := PySem.W.mg_of X G aC_Lane,
    C_Lane := ⟨pg_Lane, hd_Lane, po_Lane, sa_Lane⟩,
    n_Lane_way := n_way_Lane,
    n_Lane_sign := n_sign_Lane,
    n_Lane_shift := n_shift_Lane,
    n_Lane_deed := n_deed_Lane,
    I_Lane := ⟨cl_Lane, tC_Lane, ca_Lane, spec, takes, mo_Lane⟩, N_Lane := ⟨mo_N_Lane, mo_S_Lane, mo_T_Lane, mo_L_Lane, mo_I_Lane⟩,
    a_Lane___init__ := f8, d_Lane___init__ := _, F_Lane___init__ := fun_mk (st := s_Lane___init__) l8 c8 k8, b_Lane___init__ := (fun_mk (st := s_Lane___init__) l8 c8 k8).binds (ps := ["self", "way", "sign", "shift", "deed"]) (fun _ _ _ _ _ _ us hl => match us, hl with | [_, _, _, _, _], _ => rfl), k_Lane___init__ := k8,
    M_Lane := ⟨mk_Lane, a8, i8, kc_Lane⟩,
    a_Lane___eq__ := f9, d_Lane___eq__ := _, F_Lane___eq__ := fun_mk (st := s_Lane___eq__) l9 c9 k9, b_Lane___eq__ := (fun_mk (st := s_Lane___eq__) l9 c9 k9).binds (ps := ["self", "other"]) (fun _ _ _ _ _ _ us hl => match us, hl with | [_, _], _ => rfl), k_Lane___eq__ := k9,
    O_Lane := ⟨a9, i9, nE_Lane, mo_Lane⟩,
    a_Lane___str__ := f10, d_Lane___str__ := _, F_Lane___str__ := fun_mk (st := s_Lane___str__) l10 c10 k10, b_Lane___str__ := (fun_mk (st := s_Lane___str__) l10 c10 k10).binds (ps := ["self"]) (fun _ _ _ _ _ _ us hl => match us, hl with | [_], _ => rfl), k_Lane___str__ := k10,
    M_Lane___str__ := ⟨a10, i10, k10⟩,
    c_Block := C_Block, m_Block := PySem.W.mg_of X G aC_Block,
    C_Block := ⟨pg_Block, hd_Block, po_Block, sa_Block⟩,
    n_Block_rounds := n_rounds_Block,
    n_Block_lanes := n_lanes_Block,
    I_Block := ⟨cl_Block, tC_Block, ca_Block, spec, takes, mo_Block⟩, N_Block := ⟨mo_N_Block, mo_S_Block, mo_T_Block, mo_L_Block, mo_I_Block⟩,
    a_Block___init__ := f11, d_Block___init__ := _, F_Block___init__ := fun_mk (st := s_Block___init__) l11 c11 k11, b_Block___init__ := (fun_mk (st := s_Block___init__) l11 c11 k11).binds (ps := ["self", "rounds", "lanes"]) (fun _ _ _ _ _ _ us hl => match us, hl with | [_, _, _], _ => rfl), k_Block___init__ := k11,
    M_Block := ⟨mk_Block, a11, i11, kc_Block⟩,
    a_Block___eq__ := f12, d_Block___eq__ := _, F_Block___eq__ := fun_mk (st := s_Block___eq__) l12 c12 k12, b_Block___eq__ := (fun_mk (st := s_Block___eq__) l12 c12 k12).binds (ps := ["self", "other"]) (fun _ _ _ _ _ _ us hl => match us, hl with | [_, _], _ => rfl), k_Block___eq__ := k12,
    O_Block := ⟨a12, i12, nE_Block, mo_Block⟩,
    a_Block___str__ := f13, d_Block___str__ := _, F_Block___str__ := fun_mk (st := s_Block___str__) l13 c13 k13, b_Block___str__ := (fun_mk (st := s_Block___str__) l13 c13 k13).binds (ps := ["self"]) (fun _ _ _ _ _ _ us hl => match us, hl with | [_], _ => rfl), k_Block___str__ := k13,
    M_Block___str__ := ⟨a13, i13, k13⟩,
    c_Plan := C_Plan, m_Plan := PySem.W.mg_of X G aC_Plan,
    C_Plan := ⟨pg_Plan, hd_Plan, po_Plan, sa_Plan⟩,
    n_Plan_blocks := n_blocks_Plan,
    n_Plan_found := n_found_Plan,
    I_Plan := ⟨cl_Plan, tC_Plan, ca_Plan, spec, takes, mo_Plan⟩, N_Plan := ⟨mo_N_Plan, mo_S_Plan, mo_T_Plan, mo_L_Plan, mo_I_Plan⟩,
    e_Plan___init___0 := eD_Plan___init___0,
    a_Plan___init__ := f14, d_Plan___init__ := _, F_Plan___init__ := (show FunD K "__init__" "Plan.__init__" (defArgs s_Plan___init__) (defBody s_Plan___init__) (defScope s_Plan___init__) [(.ref eD_Plan___init___0)] [] _ _ from ⟨⟨_, _, _, _, _, _, _, _, _, _, rfl, l14, c14, .inr ⟨by simp, _, _, [Value.ref eD_Plan___init___0], _, rfl, t14, rfl, by repeat (first | exact .nil | refine .cons ⟨_, rfl⟩ ?_ | refine .cons rfl ?_)⟩, .inl rfl⟩, k14⟩), b_Plan___init__ := (by obtain ⟨ds, rv, bb⟩ := (show FunD K "__init__" "Plan.__init__" (defArgs s_Plan___init__) (defBody s_Plan___init__) (defScope s_Plan___init__) [(.ref eD_Plan___init___0)] [] _ _ from ⟨⟨_, _, _, _, _, _, _, _, _, _, rfl, l14, c14, .inr ⟨by simp, _, _, [Value.ref eD_Plan___init___0], _, rfl, t14, rfl, by repeat (first | exact .nil | refine .cons ⟨_, rfl⟩ ?_ | refine .cons rfl ?_)⟩, .inl rfl⟩, k14⟩).binds1 (ps := ["self", "blocks"]) 2 1 (by simp) rfl (fun _ _ _ _ _ _ _ us its hl hi => match us, its, hl, hi with | [_, _], [_], _, _ => ⟨_, rfl, rfl⟩); cases rv; exact bb), k_Plan___init__ := k14,
    D_Plan___init__ := (show FunD K "__init__" "Plan.__init__" (defArgs s_Plan___init__) (defBody s_Plan___init__) (defScope s_Plan___init__) [(.ref eD_Plan___init___0)] [] _ _ from ⟨⟨_, _, _, _, _, _, _, _, _, _, rfl, l14, c14, .inr ⟨by simp, _, _, [Value.ref eD_Plan___init___0], _, rfl, t14, rfl, by repeat (first | exact .nil | refine .cons ⟨_, rfl⟩ ?_ | refine .cons rfl ?_)⟩, .inl rfl⟩, k14⟩).binds1 (ps := ["self", "blocks"]) 1 0 (by simp) rfl (fun _ _ _ _ _ _ _ us its hl hi => match us, its, hl, hi with | [_], [_], _, _ => ⟨_, rfl, rfl⟩),
    E_Plan___init___0 := fun H => .inr ⟨_, _, _, lD_Plan___init___0, rfl, rfl, by show 0 ≤ sizeLine; decide, .nil⟩,
    M_Plan := ⟨mk_Plan, a14, i14, kc_Plan⟩,
    a_Plan_all_rounds := f15, d_Plan_all_rounds := _, F_Plan_all_rounds := fun_mk (st := s_Plan_all_rounds) l15 c15 k15, b_Plan_all_rounds := (fun_mk (st := s_Plan_all_rounds) l15 c15 k15).binds (ps := ["self", "n"]) (fun _ _ _ _ _ _ us hl => match us, hl with | [_, _], _ => rfl), k_Plan_all_rounds := k15,
    M_Plan_all_rounds := ⟨a15, i15, k15⟩,
    a_Plan___eq__ := f16, d_Plan___eq__ := _, F_Plan___eq__ := fun_mk (st := s_Plan___eq__) l16 c16 k16, b_Plan___eq__ := (fun_mk (st := s_Plan___eq__) l16 c16 k16).binds (ps := ["self", "other"]) (fun _ _ _ _ _ _ us hl => match us, hl with | [_, _], _ => rfl), k_Plan___eq__ := k16,
    O_Plan := ⟨a16, i16, nE_Plan, mo_Plan⟩,
    a_Plan___str__ := f17, d_Plan___str__ := _, F_Plan___str__ := fun_mk (st := s_Plan___str__) l17 c17 k17, b_Plan___str__ := (fun_mk (st := s_Plan___str__) l17 c17 k17).binds (ps := ["self"]) (fun _ _ _ _ _ _ us hl => match us, hl with | [_], _ => rfl), k_Plan___str__ := k17,
    M_Plan___str__ := ⟨a17, i17, k17⟩,
    a_Plan_read := f18, d_Plan_read := _, F_Plan_read := fun_mk (st := s_Plan_read) l18 c18 k18, b_Plan_read := (fun_mk (st := s_Plan_read) l18 c18 k18).binds (ps := ["cls", "text"]) (fun _ _ _ _ _ _ us hl => match us, hl with | [_, _], _ => rfl), k_Plan_read := k18,
    R_Plan := ⟨cr_Plan, cg_Plan⟩,
    p_Plan_read := pA18, G_Plan_read := ⟨pm18, ⟨_, pr18⟩, pf18⟩,
    c_Slip := C_Slip, m_Slip := PySem.W.mg_of X G aC_Slip,
    C_Slip := ⟨pg_Slip, hd_Slip, po_Slip, sa_Slip⟩,
    n_Slip_kind := n_kind_Slip,
    n_Slip_turn := n_turn_Slip,
    n_Slip_machine := n_machine_Slip,
    n_Slip_lane := n_lane_Slip,
    a_Slip___init__ := f19, d_Slip___init__ := _, F_Slip___init__ := fun_mk (st := s_Slip___init__) l19 c19 k19, b_Slip___init__ := (fun_mk (st := s_Slip___init__) l19 c19 k19).binds (ps := ["self", "kind", "turn", "machine", "lane"]) (fun _ _ _ _ _ _ us hl => match us, hl with | [_, _, _, _, _], _ => rfl), k_Slip___init__ := k19,
    M_Slip := ⟨mk_Slip, a19, i19, kc_Slip⟩,
    c_Played := C_Played, m_Played := PySem.W.mg_of X G aC_Played,
    C_Played := ⟨pg_Played, hd_Played, po_Played, sa_Played⟩,
    n_Played_rows := n_rows_Played,
    n_Played_sums := n_sums_Played,
    n_Played_is_right := n_is_right_Played,
    n_Played_sent := n_sent_Played,
    a_Played___init__ := f20, d_Played___init__ := _, F_Played___init__ := fun_mk (st := s_Played___init__) l20 c20 k20, b_Played___init__ := (fun_mk (st := s_Played___init__) l20 c20 k20).binds (ps := ["self", "rows", "sums", "sent"]) (fun _ _ _ _ _ _ us hl => match us, hl with | [_, _, _, _], _ => rfl), k_Played___init__ := k20,
    M_Played := ⟨mk_Played, a20, i20, kc_Played⟩,
    kit_Lane_Form := kit_Lane_Form,
    kit_Block_Lane := kit_Block_Lane,
    kit_InvalidRows_RingError := kit_InvalidRows_RingError,
    kit_InvalidRows_InvalidPlan := kit_InvalidRows_InvalidPlan,
    kit_InvalidRows_InvalidSlip := kit_InvalidRows_InvalidSlip,
    A_WAYS := A_WAYS, m_WAYS := PySem.W.mg_of X G a_WAYS, s_WAYS := fun H => .inr ⟨_, _, _, l_WAYS, rfl, rfl, by show 2 ≤ sizeLine; decide, by repeat (first | exact .nil | refine .cons ⟨_, rfl⟩ ?_)⟩,
    A_SIGNS := A_SIGNS, m_SIGNS := PySem.W.mg_of X G a_SIGNS, s_SIGNS := fun H => .inr ⟨_, _, _, l_SIGNS, rfl, rfl, by show 2 ≤ sizeLine; decide, by repeat (first | exact .nil | refine .cons ⟨_, rfl⟩ ?_)⟩,
    A_DEEDS := A_DEEDS, m_DEEDS := PySem.W.mg_of X G a_DEEDS, s_DEEDS := fun H => .inr ⟨_, _, _, l_DEEDS, rfl, rfl, by show 2 ≤ sizeLine; decide, by repeat (first | exact .nil | refine .cons ⟨_, rfl⟩ ?_)⟩,
    A_STEPS := A_STEPS, m_STEPS := PySem.W.mg_of X G a_STEPS,
    A_KINDS := A_KINDS, m_KINDS := PySem.W.mg_of X G a_KINDS, s_KINDS := fun H => .inr ⟨_, _, _, l_KINDS, rfl, rfl, by show 2 ≤ sizeLine; decide, by repeat (first | exact .nil | refine .cons ⟨_, rfl⟩ ?_)⟩,
    A_COMINGS := A_COMINGS, m_COMINGS := PySem.W.mg_of X G a_COMINGS,
    a_is_whole := f21, d_is_whole := _, F_is_whole := fun_mk (st := s_is_whole) l21 c21 k21, b_is_whole := (fun_mk (st := s_is_whole) l21 c21 k21).binds (ps := ["value"]) (fun _ _ _ _ _ _ us hl => match us, hl with | [_], _ => rfl), k_is_whole := k21,
    m_is_whole := PySem.W.mg_of X G a21,
    a_is_number := f22, d_is_number := _, F_is_number := fun_mk (st := s_is_number) l22 c22 k22, b_is_number := (fun_mk (st := s_is_number) l22 c22 k22).binds (ps := ["value"]) (fun _ _ _ _ _ _ us hl => match us, hl with | [_], _ => rfl), k_is_number := k22,
    m_is_number := PySem.W.mg_of X G a22,
    a_is_sequence := f23, d_is_sequence := _, F_is_sequence := fun_mk (st := s_is_sequence) l23 c23 k23, b_is_sequence := (fun_mk (st := s_is_sequence) l23 c23 k23).binds (ps := ["value"]) (fun _ _ _ _ _ _ us hl => match us, hl with | [_], _ => rfl), k_is_sequence := k23,
    m_is_sequence := PySem.W.mg_of X G a23,
    a_whole_in := f24, d_whole_in := _, F_whole_in := fun_mk (st := s_whole_in) l24 c24 k24, b_whole_in := (fun_mk (st := s_whole_in) l24 c24 k24).binds (ps := ["word"]) (fun _ _ _ _ _ _ us hl => match us, hl with | [_], _ => rfl), k_whole_in := k24,
    m_whole_in := PySem.W.mg_of X G a24,
    a__text := f25, d__text := _, F__text := fun_mk (st := s__text) l25 c25 k25, b__text := (fun_mk (st := s__text) l25 c25 k25).binds (ps := ["times", "plus", "by"]) (fun _ _ _ _ _ _ us hl => match us, hl with | [_, _, _], _ => rfl), k__text := k25,
    m__text := PySem.W.mg_of X G a25,
    a__upper := f26, d__upper := _, F__upper := fun_mk (st := s__upper) l26 c26 k26, b__upper := (fun_mk (st := s__upper) l26 c26 k26).binds (ps := ["times", "plus"]) (fun _ _ _ _ _ _ us hl => match us, hl with | [_, _], _ => rfl), k__upper := k26,
    m__upper := PySem.W.mg_of X G a26,
    a__parts := f27, d__parts := _, F__parts := fun_mk (st := s__parts) l27 c27 k27, b__parts := (fun_mk (st := s__parts) l27 c27 k27).binds (ps := ["text"]) (fun _ _ _ _ _ _ us hl => match us, hl with | [_], _ => rfl), k__parts := k27,
    m__parts := PySem.W.mg_of X G a27,
    a__upper_parts := f28, d__upper_parts := _, F__upper_parts := fun_mk (st := s__upper_parts) l28 c28 k28, b__upper_parts := (fun_mk (st := s__upper_parts) l28 c28 k28).binds (ps := ["upper"]) (fun _ _ _ _ _ _ us hl => match us, hl with | [_], _ => rfl), k__upper_parts := k28,
    m__upper_parts := PySem.W.mg_of X G a28,
    a__factor := f29, d__factor := _, F__factor := fun_mk (st := s__factor) l29 c29 k29, b__factor := (fun_mk (st := s__factor) l29 c29 k29).binds (ps := ["word"]) (fun _ _ _ _ _ _ us hl => match us, hl with | [_], _ => rfl), k__factor := k29,
    m__factor := PySem.W.mg_of X G a29,
    a__blocks_in := f30, d__blocks_in := _, F__blocks_in := fun_mk (st := s__blocks_in) l30 c30 k30, b__blocks_in := (fun_mk (st := s__blocks_in) l30 c30 k30).binds (ps := ["lines"]) (fun _ _ _ _ _ _ us hl => match us, hl with | [_], _ => rfl), k__blocks_in := k30,
    m__blocks_in := PySem.W.mg_of X G a30,
    a__rounds_in := f31, d__rounds_in := _, F__rounds_in := fun_mk (st := s__rounds_in) l31 c31 k31, b__rounds_in := (fun_mk (st := s__rounds_in) l31 c31 k31).binds (ps := ["line"]) (fun _ _ _ _ _ _ us hl => match us, hl with | [_], _ => rfl), k__rounds_in := k31,
    m__rounds_in := PySem.W.mg_of X G a31,
    a__lane_in := f32, d__lane_in := _, F__lane_in := fun_mk (st := s__lane_in) l32 c32 k32, b__lane_in := (fun_mk (st := s__lane_in) l32 c32 k32).binds (ps := ["line"]) (fun _ _ _ _ _ _ us hl => match us, hl with | [_], _ => rfl), k__lane_in := k32,
    m__lane_in := PySem.W.mg_of X G a32,
    a_cuts := f33, d_cuts := _, F_cuts := fun_mk (st := s_cuts) l33 c33 k33, b_cuts := (fun_mk (st := s_cuts) l33 c33 k33).binds (ps := ["length", "n"]) (fun _ _ _ _ _ _ us hl => match us, hl with | [_, _], _ => rfl), k_cuts := k33,
    m_cuts := PySem.W.mg_of X G a33,
    e_play_0 := eD_play_0,
    a_play := f34, d_play := _, F_play := (show FunD K "play" "play" (defArgs s_play) (defBody s_play) (defScope s_play) [(.ref eD_play_0)] [] _ _ from ⟨⟨_, _, _, _, _, _, _, _, _, _, rfl, l34, c34, .inr ⟨by simp, _, _, [Value.ref eD_play_0], _, rfl, t34, rfl, by repeat (first | exact .nil | refine .cons ⟨_, rfl⟩ ?_ | refine .cons rfl ?_)⟩, .inl rfl⟩, k34⟩), b_play := (by obtain ⟨ds, rv, bb⟩ := (show FunD K "play" "play" (defArgs s_play) (defBody s_play) (defScope s_play) [(.ref eD_play_0)] [] _ _ from ⟨⟨_, _, _, _, _, _, _, _, _, _, rfl, l34, c34, .inr ⟨by simp, _, _, [Value.ref eD_play_0], _, rfl, t34, rfl, by repeat (first | exact .nil | refine .cons ⟨_, rfl⟩ ?_ | refine .cons rfl ?_)⟩, .inl rfl⟩, k34⟩).binds1 (ps := ["plan", "rows", "slips"]) 3 1 (by simp) rfl (fun _ _ _ _ _ _ _ us its hl hi => match us, its, hl, hi with | [_, _, _], [_], _, _ => ⟨_, rfl, rfl⟩); cases rv; exact bb), k_play := k34,
    D_play := (show FunD K "play" "play" (defArgs s_play) (defBody s_play) (defScope s_play) [(.ref eD_play_0)] [] _ _ from ⟨⟨_, _, _, _, _, _, _, _, _, _, rfl, l34, c34, .inr ⟨by simp, _, _, [Value.ref eD_play_0], _, rfl, t34, rfl, by repeat (first | exact .nil | refine .cons ⟨_, rfl⟩ ?_ | refine .cons rfl ?_)⟩, .inl rfl⟩, k34⟩).binds1 (ps := ["plan", "rows", "slips"]) 2 0 (by simp) rfl (fun _ _ _ _ _ _ _ us its hl hi => match us, its, hl, hi with | [_, _], [_], _, _ => ⟨_, rfl, rfl⟩),
    E_play_0 := fun H => .inr ⟨_, _, _, lD_play_0, rfl, rfl, by show 0 ≤ sizeLine; decide, .nil⟩,
    m_play := PySem.W.mg_of X G a34,
    a_rows_after := f35, d_rows_after := _, F_rows_after := fun_mk (st := s_rows_after) l35 c35 k35, b_rows_after := (fun_mk (st := s_rows_after) l35 c35 k35).binds (ps := ["rows", "turns", "comings"]) (fun _ _ _ _ _ _ us hl => match us, hl with | [_, _, _], _ => rfl), k_rows_after := k35,
    m_rows_after := PySem.W.mg_of X G a35,
    a__cells_after := f36, d__cells_after := _, F__cells_after := fun_mk (st := s__cells_after) l36 c36 k36, b__cells_after := (fun_mk (st := s__cells_after) l36 c36 k36).binds (ps := ["piece", "cells", "turns", "comings"]) (fun _ _ _ _ _ _ us hl => match us, hl with | [_, _, _, _], _ => rfl), k__cells_after := k36,
    m__cells_after := PySem.W.mg_of X G a36,
    a_check_rows := f37, d_check_rows := _, F_check_rows := fun_mk (st := s_check_rows) l37 c37 k37, b_check_rows := (fun_mk (st := s_check_rows) l37 c37 k37).binds (ps := ["rows"]) (fun _ _ _ _ _ _ us hl => match us, hl with | [_], _ => rfl), k_check_rows := k37,
    m_check_rows := PySem.W.mg_of X G a37,
    a__is_row := f38, d__is_row := _, F__is_row := fun_mk (st := s__is_row) l38 c38 k38, b__is_row := (fun_mk (st := s__is_row) l38 c38 k38).binds (ps := ["row"]) (fun _ _ _ _ _ _ us hl => match us, hl with | [_], _ => rfl), k__is_row := k38,
    m__is_row := PySem.W.mg_of X G a38,
    a_comings_of := f39, d_comings_of := _, F_comings_of := fun_mk (st := s_comings_of) l39 c39 k39, b_comings_of := (fun_mk (st := s_comings_of) l39 c39 k39).binds (ps := ["slips", "turns", "n"]) (fun _ _ _ _ _ _ us hl => match us, hl with | [_, _, _], _ => rfl), k_comings_of := k39,
    m_comings_of := PySem.W.mg_of X G a39,
    a__is_there := f40, d__is_there := _, F__is_there := fun_mk (st := s__is_there) l40 c40 k40, b__is_there := (fun_mk (st := s__is_there) l40 c40 k40).binds (ps := ["slip", "turns", "n"]) (fun _ _ _ _ _ _ us hl => match us, hl with | [_, _, _], _ => rfl), k__is_there := k40,
    m__is_there := PySem.W.mg_of X G a40,
    a_turns_of := f41, d_turns_of := _, F_turns_of := fun_mk (st := s_turns_of) l41 c41 k41, b_turns_of := (fun_mk (st := s_turns_of) l41 c41 k41).binds (ps := ["plan", "n"]) (fun _ _ _ _ _ _ us hl => match us, hl with | [_, _], _ => rfl), k_turns_of := k41,
    m_turns_of := PySem.W.mg_of X G a41,
    a_drift := f42, d_drift := _, F_drift := fun_mk (st := s_drift) l42 c42 k42, b_drift := (fun_mk (st := s_drift) l42 c42 k42).binds (ps := ["lane", "t", "n"]) (fun _ _ _ _ _ _ us hl => match us, hl with | [_, _, _], _ => rfl), k_drift := k42,
    m_drift := PySem.W.mg_of X G a42,
    a_hops_in := f43, d_hops_in := _, F_hops_in := fun_mk (st := s_hops_in) l43 c43 k43, b_hops_in := (fun_mk (st := s_hops_in) l43 c43 k43).binds (ps := ["block", "t", "n", "piece"]) (fun _ _ _ _ _ _ us hl => match us, hl with | [_, _, _, _], _ => rfl), k_hops_in := k43,
    m_hops_in := PySem.W.mg_of X G a43,
    a_with_slips := f44, d_with_slips := _, F_with_slips := fun_mk (st := s_with_slips) l44 c44 k44, b_with_slips := (fun_mk (st := s_with_slips) l44 c44 k44).binds (ps := ["hops", "turn", "comings"]) (fun _ _ _ _ _ _ us hl => match us, hl with | [_, _, _], _ => rfl), k_with_slips := k44,
    m_with_slips := PySem.W.mg_of X G a44,
    a_do_hops := f45, d_do_hops := _, F_do_hops := fun_mk (st := s_do_hops) l45 c45 k45, b_do_hops := (fun_mk (st := s_do_hops) l45 c45 k45).binds (ps := ["cells", "hops"]) (fun _ _ _ _ _ _ us hl => match us, hl with | [_, _], _ => rfl), k_do_hops := k45,
    m_do_hops := PySem.W.mg_of X G a45,
    a_added := f46, d_added := _, F_added := fun_mk (st := s_added) l46 c46 k46, b_added := (fun_mk (st := s_added) l46 c46 k46).binds (ps := ["own", "came"]) (fun _ _ _ _ _ _ us hl => match us, hl with | [_, _], _ => rfl), k_added := k46,
    m_added := PySem.W.mg_of X G a46,
    a_columns_of := f47, d_columns_of := _, F_columns_of := fun_mk (st := s_columns_of) l47 c47 k47, b_columns_of := (fun_mk (st := s_columns_of) l47 c47 k47).binds (ps := ["rows"]) (fun _ _ _ _ _ _ us hl => match us, hl with | [_], _ => rfl), k_columns_of := k47,
    m_columns_of := PySem.W.mg_of X G a47,
    a_rows_of := f48, d_rows_of := _, F_rows_of := fun_mk (st := s_rows_of) l48 c48 k48, b_rows_of := (fun_mk (st := s_rows_of) l48 c48 k48).binds (ps := ["columns"]) (fun _ _ _ _ _ _ us hl => match us, hl with | [_], _ => rfl), k_rows_of := k48,
    m_rows_of := PySem.W.mg_of X G a48,
    a_sums_of := f49, d_sums_of := _, F_sums_of := fun_mk (st := s_sums_of) l49 c49 k49, b_sums_of := (fun_mk (st := s_sums_of) l49 c49 k49).binds (ps := ["rows"]) (fun _ _ _ _ _ _ us hl => match us, hl with | [_], _ => rfl), k_sums_of := k49,
    m_sums_of := PySem.W.mg_of X G a49,
    a_are_all := f50, d_are_all := _, F_are_all := fun_mk (st := s_are_all) l50 c50 k50, b_are_all := (fun_mk (st := s_are_all) l50 c50 k50).binds (ps := ["rows", "sums"]) (fun _ _ _ _ _ _ us hl => match us, hl with | [_, _], _ => rfl), k_are_all := k50,
    m_are_all := PySem.W.mg_of X G a50,
    a_handed_on := f51, d_handed_on := _, F_handed_on := fun_mk (st := s_handed_on) l51 c51 k51, b_handed_on := (fun_mk (st := s_handed_on) l51 c51 k51).binds (ps := ["turns", "n", "length"]) (fun _ _ _ _ _ _ us hl => match us, hl with | [_, _, _], _ => rfl), k_handed_on := k51,
    m_handed_on := PySem.W.mg_of X G a51,
    a__law_box := f52, d__law_box := _, F__law_box := fun_mk (st := s__law_box) l52 c52 k52, b__law_box := (fun_mk (st := s__law_box) l52 c52 k52).binds (ps := ["_law_script", "_law_k", "_law_own"]) (fun _ _ _ _ _ _ us hl => match us, hl with | [_, _, _], _ => rfl), k__law_box := k52,
    m__law_box := PySem.W.mg_of X G a52,
    a__law_take := f53, d__law_take := _, F__law_take := fun_mk (st := s__law_take) l53 c53 k53, b__law_take := (fun_mk (st := s__law_take) l53 c53 k53).binds (ps := ["_law_box_here", "_law_many"]) (fun _ _ _ _ _ _ us hl => match us, hl with | [_, _], _ => rfl), k__law_take := k53,
    m__law_take := PySem.W.mg_of X G a53,
    a__law_pick := f54, d__law_pick := _, F__law_pick := fun_mk (st := s__law_pick) l54 c54 k54, b__law_pick := (fun_mk (st := s__law_pick) l54 c54 k54).binds (ps := ["_law_box_here", "_law_items"]) (fun _ _ _ _ _ _ us hl => match us, hl with | [_, _], _ => rfl), k__law_pick := k54,
    m__law_pick := PySem.W.mg_of X G a54,
    a__law_form_text := f55, d__law_form_text := _, F__law_form_text := fun_mk (st := s__law_form_text) l55 c55 k55, b__law_form_text := (fun_mk (st := s__law_form_text) l55 c55 k55).binds (ps := ["_law_form"]) (fun _ _ _ _ _ _ us hl => match us, hl with | [_], _ => rfl), k__law_form_text := k55,
    m__law_form_text := PySem.W.mg_of X G a55,
    a__law_plan_text := f56, d__law_plan_text := _, F__law_plan_text := fun_mk (st := s__law_plan_text) l56 c56 k56, b__law_plan_text := (fun_mk (st := s__law_plan_text) l56 c56 k56).binds (ps := ["_law_drawn"]) (fun _ _ _ _ _ _ us hl => match us, hl with | [_], _ => rfl), k__law_plan_text := k56,
    m__law_plan_text := PySem.W.mg_of X G a56,
    a__law_plan_of := f57, d__law_plan_of := _, F__law_plan_of := fun_mk (st := s__law_plan_of) l57 c57 k57, b__law_plan_of := (fun_mk (st := s__law_plan_of) l57 c57 k57).binds (ps := ["_law_drawn"]) (fun _ _ _ _ _ _ us hl => match us, hl with | [_], _ => rfl), k__law_plan_of := k57,
    m__law_plan_of := PySem.W.mg_of X G a57,
    a__law_usual := f58, d__law_usual := _, F__law_usual := fun_mk (st := s__law_usual) l58 c58 k58, b__law_usual := (fun_mk (st := s__law_usual) l58 c58 k58).binds (ps := ["_law_box_here"]) (fun _ _ _ _ _ _ us hl => match us, hl with | [_], _ => rfl), k__law_usual := k58,
    m__law_usual := PySem.W.mg_of X G a58,
    a__law_integer := f59, d__law_integer := _, F__law_integer := fun_mk (st := s__law_integer) l59 c59 k59, b__law_integer := (fun_mk (st := s__law_integer) l59 c59 k59).binds (ps := ["_law_box_here"]) (fun _ _ _ _ _ _ us hl => match us, hl with | [_], _ => rfl), k__law_integer := k59,
    m__law_integer := PySem.W.mg_of X G a59,
    a__law_rows := f60, d__law_rows := _, F__law_rows := fun_mk (st := s__law_rows) l60 c60 k60, b__law_rows := (fun_mk (st := s__law_rows) l60 c60 k60).binds (ps := ["_law_box_here", "_law_n", "_law_size"]) (fun _ _ _ _ _ _ us hl => match us, hl with | [_, _, _], _ => rfl), k__law_rows := k60,
    m__law_rows := PySem.W.mg_of X G a60,
    a__law_any := f61, d__law_any := _, F__law_any := fun_mk (st := s__law_any) l61 c61 k61, b__law_any := (fun_mk (st := s__law_any) l61 c61 k61).binds (ps := ["_law_box_here", "_law_deep"]) (fun _ _ _ _ _ _ us hl => match us, hl with | [_, _], _ => rfl), k__law_any := k61,
    m__law_any := PySem.W.mg_of X G a61,
    a__law_due := f62, d__law_due := _, F__law_due := fun_mk (st := s__law_due) l62 c62 k62, b__law_due := (fun_mk (st := s__law_due) l62 c62 k62).binds (ps := ["_law_value"]) (fun _ _ _ _ _ _ us hl => match us, hl with | [_], _ => rfl), k__law_due := k62,
    m__law_due := PySem.W.mg_of X G a62,
    a__law_refused := f63, d__law_refused := _, F__law_refused := fun_mk (st := s__law_refused) l63 c63 k63, b__law_refused := (fun_mk (st := s__law_refused) l63 c63 k63).binds (ps := ["_law_made", "_law_value", "_law_slips"]) (fun _ _ _ _ _ _ us hl => match us, hl with | [_, _, _], _ => rfl), k__law_refused := k63,
    m__law_refused := PySem.W.mg_of X G a63,
    a_law := fa, d_law := _, F_law := fun_mk (st := s_law) l64 c64 k64, b_law := (fun_mk (st := s_law) l64 c64 k64).binds (ps := ["_law_script"]) (fun _ _ _ _ _ _ us hl => match us, hl with | [_], _ => rfl), k_law := k64,
    m_law := PySem.W.mg_of X G a64,
    z_abs := PySem.W.mg_none_of X G z_abs, z_all := PySem.W.mg_none_of X G z_all, z_bool := PySem.W.mg_none_of X G z_bool, z_dict := PySem.W.mg_none_of X G z_dict, z_enumerate := PySem.W.mg_none_of X G z_enumerate, z_int := PySem.W.mg_none_of X G z_int, z_isinstance := PySem.W.mg_none_of X G z_isinstance, z_len := PySem.W.mg_none_of X G z_len, z_list := PySem.W.mg_none_of X G z_list, z_max := PySem.W.mg_none_of X G z_max, z_min := PySem.W.mg_none_of X G z_min, z_range := PySem.W.mg_none_of X G z_range, z_repr := PySem.W.mg_none_of X G z_repr, z_str := PySem.W.mg_none_of X G z_str, z_sum := PySem.W.mg_none_of X G z_sum, z_tuple := PySem.W.mg_none_of X G z_tuple, z_zip := PySem.W.mg_none_of X G z_zip }
  exact ⟨PySem.W.fnOf "law" "law" (defArgs s_law) (defBody s_law) (defScope s_law) .none kV64 dc64 pm64 an64 cd64 ct64, fun s v => .of_eq rfl, fun base _ _ => ok_law T (dct_STEPS ⟨es_STEPS, en_STEPS, Value.int (1) kt_STEPS0, l_STEPS, kl_STEPS, kv_STEPS0, ⟨_, rfl⟩⟩ ⟨es_STEPS, en_STEPS, Value.int (-1) kt_STEPS1, l_STEPS, kl_STEPS, kv_STEPS1, ⟨_, rfl⟩⟩) (dct_COMINGS ⟨es_COMINGS, en_COMINGS, Value.int (2) kt_COMINGS0, l_COMINGS, kl_COMINGS, kv_COMINGS0, ⟨_, rfl⟩⟩ ⟨es_COMINGS, en_COMINGS, Value.int (0) kt_COMINGS1, l_COMINGS, kl_COMINGS, kv_COMINGS1, ⟨_, rfl⟩⟩)⟩
end K17
open PySem PySem.W PyProof.Rows
set_option maxHeartbeats 0 in
theorem PySem.Challenge.cw_ringsums_k17_rows_refused_holds : PySem.Challenge.rw_ringsums_k17_rows_refused.Holds := by
  w_on; o_law; k_head; (case hw => w_witness2)
  k_fill
  refine Rs.walk_at_of (l := PySem.Challenge.rw_ringsums_k17_rows_refused) (n := 63) (k := 14) (x := "_law_script") (sp := fun w => K17.spLaw _) rfl (by decide) rfl ⟨rfl, by decide, by decide⟩ (fun w h Y => PySem.W.kIn_of Y) ?F (fun _ _ a ns hl hS => ⟨a, ns, rfl, hS, hl, fun _ => rfl⟩)
  case F =>
    intro w mg fa h KX G hmg
    refine' K17.all_mk KX G hmg ?aC_RingError ?aC_InvalidPlan ?aC_InvalidRows ?xL_InvalidRows ?sa_InvalidRows ?ga_InvalidRows ?gg_InvalidRows ?nw_InvalidRows ?ca_InvalidRows ?kC_InvalidRows ?eC_InvalidRows ?tC_InvalidRows ?hC_InvalidRows ?sC_InvalidRows ?mo_InvalidRows ?cl_InvalidRows ?l0 ?c0 ?k0 ?iC_InvalidRows ?iT_InvalidRows ?aC_InvalidSlip ?xL_InvalidSlip ?sa_InvalidSlip ?ga_InvalidSlip ?gg_InvalidSlip ?nw_InvalidSlip ?ca_InvalidSlip ?kC_InvalidSlip ?eC_InvalidSlip ?tC_InvalidSlip ?hC_InvalidSlip ?sC_InvalidSlip ?mo_InvalidSlip ?cl_InvalidSlip ?l1 ?c1 ?k1 ?iC_InvalidSlip ?iT_InvalidSlip ?aC_Refused ?xL_Refused ?sa_Refused ?ga_Refused ?gg_Refused ?nw_Refused ?ca_Refused ?kC_Refused ?eC_Refused ?tC_Refused ?hC_Refused ?sC_Refused ?mo_Refused ?cl_Refused ?l2 ?c2 ?k2 ?iC_Refused ?iT_Refused ?aC_Form ?pg_Form ?hd_Form ?po_Form ?sa_Form ?mk_Form ?kc_Form ?n_times_Form ?n_plus_Form ?n_by_Form ?fo_Form ?cl_Form ?tC_Form ?ca_Form ?mo_Form ?nE_Form ?mo_N_Form ?mo_S_Form ?mo_T_Form ?mo_L_Form ?mo_I_Form ?t3 ?l3 ?c3 ?k3 ?a3 ?i3 ?l4 ?c4 ?k4 ?a4 ?i4 ?fi4 ?l5 ?c5 ?k5 ?a5 ?i5 ?l6 ?c6 ?k6 ?a6 ?i6 ?l7 ?c7 ?k7 ?cr_Form ?cg_Form ?pm7 ?pr7 ?pf7 ?aC_Lane ?pg_Lane ?hd_Lane ?po_Lane ?sa_Lane ?mk_Lane ?kc_Lane ?n_way_Lane ?n_sign_Lane ?n_shift_Lane ?n_deed_Lane ?cl_Lane ?tC_Lane ?ca_Lane ?mo_Lane ?nE_Lane ?mo_N_Lane ?mo_S_Lane ?mo_T_Lane ?mo_L_Lane ?mo_I_Lane ?l8 ?c8 ?k8 ?a8 ?i8 ?l9 ?c9 ?k9 ?a9 ?i9 ?l10 ?c10 ?k10 ?a10 ?i10 ?aC_Block ?pg_Block ?hd_Block ?po_Block ?sa_Block ?mk_Block ?kc_Block ?n_rounds_Block ?n_lanes_Block ?cl_Block ?tC_Block ?ca_Block ?mo_Block ?nE_Block ?mo_N_Block ?mo_S_Block ?mo_T_Block ?mo_L_Block ?mo_I_Block ?l11 ?c11 ?k11 ?a11 ?i11 ?l12 ?c12 ?k12 ?a12 ?i12 ?l13 ?c13 ?k13 ?a13 ?i13 ?aC_Plan ?pg_Plan ?hd_Plan ?po_Plan ?sa_Plan ?mk_Plan ?kc_Plan ?n_blocks_Plan ?n_found_Plan ?cl_Plan ?tC_Plan ?ca_Plan ?mo_Plan ?nE_Plan ?mo_N_Plan ?mo_S_Plan ?mo_T_Plan ?mo_L_Plan ?mo_I_Plan ?t14 ?l14 ?c14 ?k14 ?lD_Plan___init___0 ?a14 ?i14 ?l15 ?c15 ?k15 ?a15 ?i15 ?l16 ?c16 ?k16 ?a16 ?i16 ?l17 ?c17 ?k17 ?a17 ?i17 ?l18 ?c18 ?k18 ?cr_Plan ?cg_Plan ?pm18 ?pr18 ?pf18 ?aC_Slip ?pg_Slip ?hd_Slip ?po_Slip ?sa_Slip ?mk_Slip ?kc_Slip ?n_kind_Slip ?n_turn_Slip ?n_machine_Slip ?n_lane_Slip ?l19 ?c19 ?k19 ?a19 ?i19 ?aC_Played ?pg_Played ?hd_Played ?po_Played ?sa_Played ?mk_Played ?kc_Played ?n_rows_Played ?n_sums_Played ?n_is_right_Played ?n_sent_Played ?l20 ?c20 ?k20 ?a20 ?i20 ?spec ?takes ?kit_Lane_Form ?kit_Block_Lane ?kit_InvalidRows_RingError ?kit_InvalidRows_InvalidPlan ?kit_InvalidRows_InvalidSlip ?a_WAYS ?l_WAYS ?a_SIGNS ?l_SIGNS ?a_DEEDS ?l_DEEDS ?a_STEPS ?l_STEPS ?kl_STEPS ?kv_STEPS0 ?kv_STEPS1 ?a_KINDS ?l_KINDS ?a_COMINGS ?l_COMINGS ?kl_COMINGS ?kv_COMINGS0 ?kv_COMINGS1 ?l21 ?c21 ?k21 ?a21 ?l22 ?c22 ?k22 ?a22 ?l23 ?c23 ?k23 ?a23 ?l24 ?c24 ?k24 ?a24 ?l25 ?c25 ?k25 ?a25 ?l26 ?c26 ?k26 ?a26 ?l27 ?c27 ?k27 ?a27 ?l28 ?c28 ?k28 ?a28 ?l29 ?c29 ?k29 ?a29 ?l30 ?c30 ?k30 ?a30 ?l31 ?c31 ?k31 ?a31 ?l32 ?c32 ?k32 ?a32 ?l33 ?c33 ?k33 ?a33 ?t34 ?l34 ?c34 ?k34 ?lD_play_0 ?a34 ?l35 ?c35 ?k35 ?a35 ?l36 ?c36 ?k36 ?a36 ?l37 ?c37 ?k37 ?a37 ?l38 ?c38 ?k38 ?a38 ?l39 ?c39 ?k39 ?a39 ?l40 ?c40 ?k40 ?a40 ?l41 ?c41 ?k41 ?a41 ?l42 ?c42 ?k42 ?a42 ?l43 ?c43 ?k43 ?a43 ?l44 ?c44 ?k44 ?a44 ?l45 ?c45 ?k45 ?a45 ?l46 ?c46 ?k46 ?a46 ?l47 ?c47 ?k47 ?a47 ?l48 ?c48 ?k48 ?a48 ?l49 ?c49 ?k49 ?a49 ?l50 ?c50 ?k50 ?a50 ?l51 ?c51 ?k51 ?a51 ?l52 ?c52 ?k52 ?a52 ?l53 ?c53 ?k53 ?a53 ?l54 ?c54 ?k54 ?a54 ?l55 ?c55 ?k55 ?a55 ?l56 ?c56 ?k56 ?a56 ?l57 ?c57 ?k57 ?a57 ?l58 ?c58 ?k58 ?a58 ?l59 ?c59 ?k59 ?a59 ?l60 ?c60 ?k60 ?a60 ?l61 ?c61 ?k61 ?a61 ?l62 ?c62 ?k62 ?a62 ?l63 ?c63 ?k63 ?a63 ?l64 ?c64 ?k64 ?a64 ?z_abs ?z_all ?z_bool ?z_dict ?z_enumerate ?z_int ?z_isinstance ?z_len ?z_list ?z_max ?z_min ?z_range ?z_repr ?z_str ?z_sum ?z_tuple ?z_zip
    (case aC_RingError => k_is)
    (case aC_InvalidPlan => k_is)
    (case aC_InvalidRows => k_is)
    (case aC_InvalidSlip => k_is)
    (case aC_Refused => k_is)
    (case aC_Form => k_is)
    (case aC_Lane => k_is)
    (case aC_Block => k_is)
    (case aC_Plan => k_is)
    (case aC_Slip => k_is)
    (case aC_Played => k_is)
    (case a_WAYS => k_is)
    (case a_SIGNS => k_is)
    (case a_DEEDS => k_is)
    (case a_STEPS => k_is)
    (case a_KINDS => k_is)
    (case a_COMINGS => k_is)
    (case iC_InvalidRows => k_is)
    (case iC_InvalidSlip => k_is)
    (case iC_Refused => k_is)
    (case a3 => k_is)
    (case a4 => k_is)
    (case a5 => k_is)
    (case a6 => k_is)
    (case pm7 => k_is)
    (case a8 => k_is)
    (case a9 => k_is)
    (case a10 => k_is)
    (case a11 => k_is)
    (case a12 => k_is)
    (case a13 => k_is)
    (case a14 => k_is)
    (case a15 => k_is)
    (case a16 => k_is)
    (case a17 => k_is)
    (case pm18 => k_is)
    (case a19 => k_is)
    (case a20 => k_is)
    (case a21 => k_is)
    (case a22 => k_is)
    (case a23 => k_is)
    (case a24 => k_is)
    (case a25 => k_is)
    (case a26 => k_is)
    (case a27 => k_is)
    (case a28 => k_is)
    (case a29 => k_is)
    (case a30 => k_is)
    (case a31 => k_is)
    (case a32 => k_is)
    (case a33 => k_is)
    (case a34 => k_is)
    (case a35 => k_is)
    (case a36 => k_is)
    (case a37 => k_is)
    (case a38 => k_is)
    (case a39 => k_is)
    (case a40 => k_is)
    (case a41 => k_is)
    (case a42 => k_is)
    (case a43 => k_is)
    (case a44 => k_is)
    (case a45 => k_is)
    (case a46 => k_is)
    (case a47 => k_is)
    (case a48 => k_is)
    (case a49 => k_is)
    (case a50 => k_is)
    (case a51 => k_is)
    (case a52 => k_is)
    (case a53 => k_is)
    (case a54 => k_is)
    (case a55 => k_is)
    (case a56 => k_is)
    (case a57 => k_is)
    (case a58 => k_is)
    (case a59 => k_is)
    (case a60 => k_is)
    (case a61 => k_is)
    (case a62 => k_is)
    (case a63 => k_is)
    (case a64 => k_is)
    (case pr7 => k_is)
    (case pr18 => k_is)
    (case xL_InvalidRows => k_is)
    (case l0 => k_is)
    (case xL_InvalidSlip => k_is)
    (case l1 => k_is)
    (case xL_Refused => k_is)
    (case l2 => k_is)
    (case l3 => k_is)
    (case l4 => k_is)
    (case l5 => k_is)
    (case l6 => k_is)
    (case l7 => k_is)
    (case l8 => k_is)
    (case l9 => k_is)
    (case l10 => k_is)
    (case l11 => k_is)
    (case l12 => k_is)
    (case l13 => k_is)
    (case l14 => k_is)
    (case l15 => k_is)
    (case l16 => k_is)
    (case l17 => k_is)
    (case l18 => k_is)
    (case l19 => k_is)
    (case l20 => k_is)
    (case l_WAYS => k_is)
    (case l_SIGNS => k_is)
    (case l_DEEDS => k_is)
    (case l_STEPS => k_is)
    (case l_KINDS => k_is)
    (case l_COMINGS => k_is)
    (case l21 => k_is)
    (case l22 => k_is)
    (case l23 => k_is)
    (case l24 => k_is)
    (case l25 => k_is)
    (case l26 => k_is)
    (case l27 => k_is)
    (case l28 => k_is)
    (case l29 => k_is)
    (case l30 => k_is)
    (case l31 => k_is)
    (case l32 => k_is)
    (case l33 => k_is)
    (case l34 => k_is)
    (case l35 => k_is)
    (case l36 => k_is)
    (case l37 => k_is)
    (case l38 => k_is)
    (case l39 => k_is)
    (case l40 => k_is)
    (case l41 => k_is)
    (case l42 => k_is)
    (case l43 => k_is)
    (case l44 => k_is)
    (case l45 => k_is)
    (case l46 => k_is)
    (case l47 => k_is)
    (case l48 => k_is)
    (case l49 => k_is)
    (case l50 => k_is)
    (case l51 => k_is)
    (case l52 => k_is)
    (case l53 => k_is)
    (case l54 => k_is)
    (case l55 => k_is)
    (case l56 => k_is)
    (case l57 => k_is)
    (case l58 => k_is)
    (case l59 => k_is)
    (case l60 => k_is)
    (case l61 => k_is)
    (case l62 => k_is)
    (case l63 => k_is)
    (case l64 => k_is)
    (case sa_InvalidRows => k_is)
    (case ga_InvalidRows => k_is)
    (case gg_InvalidRows => k_is)
    (case nw_InvalidRows => k_is)
    (case ca_InvalidRows => k_is)
    (case kC_InvalidRows => k_is)
    (case eC_InvalidRows => k_is)
    (case tC_InvalidRows => first | rfl | k_is)
    (case hC_InvalidRows => k_is)
    (case sC_InvalidRows => first | rfl | k_is)
    (case mo_InvalidRows => first | rfl | k_is)
    (case cl_InvalidRows => first | rfl | k_is)
    (case c0 => k_is)
    (case k0 => k_is)
    (case iT_InvalidRows => k_is)
    (case sa_InvalidSlip => k_is)
    (case ga_InvalidSlip => k_is)
    (case gg_InvalidSlip => k_is)
    (case nw_InvalidSlip => k_is)
    (case ca_InvalidSlip => k_is)
    (case kC_InvalidSlip => k_is)
    (case eC_InvalidSlip => k_is)
    (case tC_InvalidSlip => first | rfl | k_is)
    (case hC_InvalidSlip => k_is)
    (case sC_InvalidSlip => first | rfl | k_is)
    (case mo_InvalidSlip => first | rfl | k_is)
    (case cl_InvalidSlip => first | rfl | k_is)
    (case c1 => k_is)
    (case k1 => k_is)
    (case iT_InvalidSlip => k_is)
    (case sa_Refused => k_is)
    (case ga_Refused => k_is)
    (case gg_Refused => k_is)
    (case nw_Refused => k_is)
    (case ca_Refused => k_is)
    (case kC_Refused => k_is)
    (case eC_Refused => k_is)
    (case tC_Refused => first | rfl | k_is)
    (case hC_Refused => k_is)
    (case sC_Refused => first | rfl | k_is)
    (case mo_Refused => first | rfl | k_is)
    (case cl_Refused => first | rfl | k_is)
    (case c2 => k_is)
    (case k2 => k_is)
    (case iT_Refused => k_is)
    (case pg_Form => k_is)
    (case hd_Form => k_is)
    (case po_Form => k_is)
    (case sa_Form => k_is)
    (case mk_Form => k_is)
    (case kc_Form => k_is)
    (case n_times_Form => k_is)
    (case n_plus_Form => k_is)
    (case n_by_Form => k_is)
    (case fo_Form => k_is)
    (case cl_Form => first | rfl | k_is)
    (case tC_Form => first | rfl | k_is)
    (case ca_Form => k_is)
    (case mo_Form => first | rfl | k_is)
    (case nE_Form => k_is)
    (case mo_N_Form => first | rfl | k_is)
    (case mo_S_Form => first | rfl | k_is)
    (case mo_T_Form => first | rfl | k_is)
    (case mo_L_Form => first | rfl | k_is)
    (case mo_I_Form => first | rfl | k_is)
    (case t3 => first | rfl | k_is)
    (case c3 => k_is)
    (case k3 => k_is)
    (case i3 => k_is)
    (case c4 => k_is)
    (case k4 => k_is)
    (case i4 => k_is)
    (case fi4 => k_is)
    (case c5 => k_is)
    (case k5 => k_is)
    (case i5 => k_is)
    (case c6 => k_is)
    (case k6 => k_is)
    (case i6 => k_is)
    (case c7 => k_is)
    (case k7 => k_is)
    (case cr_Form => k_is)
    (case cg_Form => k_is)
    (case pf7 => k_is)
    (case pg_Lane => k_is)
    (case hd_Lane => k_is)
    (case po_Lane => k_is)
    (case sa_Lane => k_is)
    (case mk_Lane => k_is)
    (case kc_Lane => k_is)
    (case n_way_Lane => k_is)
    (case n_sign_Lane => k_is)
    (case n_shift_Lane => k_is)
    (case n_deed_Lane => k_is)
    (case cl_Lane => first | rfl | k_is)
    (case tC_Lane => first | rfl | k_is)
    (case ca_Lane => k_is)
    (case mo_Lane => first | rfl | k_is)
    (case nE_Lane => k_is)
    (case mo_N_Lane => first | rfl | k_is)
    (case mo_S_Lane => first | rfl | k_is)
    (case mo_T_Lane => first | rfl | k_is)
    (case mo_L_Lane => first | rfl | k_is)
    (case mo_I_Lane => first | rfl | k_is)
    (case c8 => k_is)
    (case k8 => k_is)
    (case i8 => k_is)
    (case c9 => k_is)
    (case k9 => k_is)
    (case i9 => k_is)
    (case c10 => k_is)
    (case k10 => k_is)
    (case i10 => k_is)
    (case pg_Block => k_is)
    (case hd_Block => k_is)
    (case po_Block => k_is)
    (case sa_Block => k_is)
    (case mk_Block => k_is)
    (case kc_Block => k_is)
    (case n_rounds_Block => k_is)
    (case n_lanes_Block => k_is)
    (case cl_Block => first | rfl | k_is)
    (case tC_Block => first | rfl | k_is)
    (case ca_Block => k_is)
    (case mo_Block => first | rfl | k_is)
    (case nE_Block => k_is)
    (case mo_N_Block => first | rfl | k_is)
    (case mo_S_Block => first | rfl | k_is)
    (case mo_T_Block => first | rfl | k_is)
    (case mo_L_Block => first | rfl | k_is)
    (case mo_I_Block => first | rfl | k_is)
    (case c11 => k_is)
    (case k11 => k_is)
    (case i11 => k_is)
    (case c12 => k_is)
    (case k12 => k_is)
    (case i12 => k_is)
    (case c13 => k_is)
    (case k13 => k_is)
    (case i13 => k_is)
    (case pg_Plan => k_is)
    (case hd_Plan => k_is)
    (case po_Plan => k_is)
    (case sa_Plan => k_is)
    (case mk_Plan => k_is)
    (case kc_Plan => k_is)
    (case n_blocks_Plan => k_is)
    (case n_found_Plan => k_is)
    (case cl_Plan => first | rfl | k_is)
    (case tC_Plan => first | rfl | k_is)
    (case ca_Plan => k_is)
    (case mo_Plan => first | rfl | k_is)
    (case nE_Plan => k_is)
    (case mo_N_Plan => first | rfl | k_is)
    (case mo_S_Plan => first | rfl | k_is)
    (case mo_T_Plan => first | rfl | k_is)
    (case mo_L_Plan => first | rfl | k_is)
    (case mo_I_Plan => first | rfl | k_is)
    (case t14 => first | rfl | k_is)
    (case c14 => k_is)
    (case k14 => k_is)
    (case i14 => k_is)
    (case c15 => k_is)
    (case k15 => k_is)
    (case i15 => k_is)
    (case c16 => k_is)
    (case k16 => k_is)
    (case i16 => k_is)
    (case c17 => k_is)
    (case k17 => k_is)
    (case i17 => k_is)
    (case c18 => k_is)
    (case k18 => k_is)
    (case cr_Plan => k_is)
    (case cg_Plan => k_is)
    (case pf18 => k_is)
    (case pg_Slip => k_is)
    (case hd_Slip => k_is)
    (case po_Slip => k_is)
    (case sa_Slip => k_is)
    (case mk_Slip => k_is)
    (case kc_Slip => k_is)
    (case n_kind_Slip => k_is)
    (case n_turn_Slip => k_is)
    (case n_machine_Slip => k_is)
    (case n_lane_Slip => k_is)
    (case c19 => k_is)
    (case k19 => k_is)
    (case i19 => k_is)
    (case pg_Played => k_is)
    (case hd_Played => k_is)
    (case po_Played => k_is)
    (case sa_Played => k_is)
    (case mk_Played => k_is)
    (case kc_Played => k_is)
    (case n_rows_Played => k_is)
    (case n_sums_Played => k_is)
    (case n_is_right_Played => k_is)
    (case n_sent_Played => k_is)
    (case c20 => k_is)
    (case k20 => k_is)
    (case i20 => k_is)
    (case spec => first | rfl | k_is)
    (case takes => first | rfl | k_is)
    (case kit_Lane_Form => first | rfl | k_is)
    (case kit_Block_Lane => first | rfl | k_is)
    (case kit_InvalidRows_RingError => first | rfl | k_is)
    (case kit_InvalidRows_InvalidPlan => first | rfl | k_is)
    (case kit_InvalidRows_InvalidSlip => first | rfl | k_is)
    (case kl_STEPS => exact ⟨⟨_, _, rfl, rfl⟩, ⟨_, _, rfl, rfl⟩, trivial⟩)
    (case kv_STEPS0 => k_is)
    (case kv_STEPS1 => k_is)
    (case kl_COMINGS => exact ⟨⟨_, _, rfl, rfl⟩, ⟨_, _, rfl, rfl⟩, trivial⟩)
    (case kv_COMINGS0 => k_is)
    (case kv_COMINGS1 => k_is)
    (case c21 => k_is)
    (case k21 => k_is)
    (case c22 => k_is)
    (case k22 => k_is)
    (case c23 => k_is)
    (case k23 => k_is)
    (case c24 => k_is)
    (case k24 => k_is)
    (case c25 => k_is)
    (case k25 => k_is)
    (case c26 => k_is)
    (case k26 => k_is)
    (case c27 => k_is)
    (case k27 => k_is)
    (case c28 => k_is)
    (case k28 => k_is)
    (case c29 => k_is)
    (case k29 => k_is)
    (case c30 => k_is)
    (case k30 => k_is)
    (case c31 => k_is)
    (case k31 => k_is)
    (case c32 => k_is)
    (case k32 => k_is)
    (case c33 => k_is)
    (case k33 => k_is)
    (case t34 => first | rfl | k_is)
    (case c34 => k_is)
    (case k34 => k_is)
    (case c35 => k_is)
    (case k35 => k_is)
    (case c36 => k_is)
    (case k36 => k_is)
    (case c37 => k_is)
    (case k37 => k_is)
    (case c38 => k_is)
    (case k38 => k_is)
    (case c39 => k_is)
    (case k39 => k_is)
    (case c40 => k_is)
    (case k40 => k_is)
    (case c41 => k_is)
    (case k41 => k_is)
    (case c42 => k_is)
    (case k42 => k_is)
    (case c43 => k_is)
    (case k43 => k_is)
    (case c44 => k_is)
    (case k44 => k_is)
    (case c45 => k_is)
    (case k45 => k_is)
    (case c46 => k_is)
    (case k46 => k_is)
    (case c47 => k_is)
    (case k47 => k_is)
    (case c48 => k_is)
    (case k48 => k_is)
    (case c49 => k_is)
    (case k49 => k_is)
    (case c50 => k_is)
    (case k50 => k_is)
    (case c51 => k_is)
    (case k51 => k_is)
    (case c52 => k_is)
    (case k52 => k_is)
    (case c53 => k_is)
    (case k53 => k_is)
    (case c54 => k_is)
    (case k54 => k_is)
    (case c55 => k_is)
    (case k55 => k_is)
    (case c56 => k_is)
    (case k56 => k_is)
    (case c57 => k_is)
    (case k57 => k_is)
    (case c58 => k_is)
    (case k58 => k_is)
    (case c59 => k_is)
    (case k59 => k_is)
    (case c60 => k_is)
    (case k60 => k_is)
    (case c61 => k_is)
    (case k61 => k_is)
    (case c62 => k_is)
    (case k62 => k_is)
    (case c63 => k_is)
    (case k63 => k_is)
    (case c64 => k_is)
    (case k64 => k_is)
    (case z_abs => k_is)
    (case z_all => k_is)
    (case z_bool => k_is)
    (case z_dict => k_is)
    (case z_enumerate => k_is)
    (case z_int => k_is)
    (case z_isinstance => k_is)
    (case z_len => k_is)
    (case z_list => k_is)
    (case z_max => k_is)
    (case z_min => k_is)
    (case z_range => k_is)
    (case z_repr => k_is)
    (case z_str => k_is)
    (case z_sum => k_is)
    (case z_tuple => k_is)
    (case z_zip => k_is)
    (case lD_Plan___init___0 => k_is)
    (case lD_play_0 => k_is)
