import PyProof.Rows.All
import Wide.All
import OpenK.AllK
import Wide.FinOn
import HandS.ForMost
import HandS.Wide
import HandS.Conv
import HandS.IsInst
import HandS.Walk
import HandS.TupAny
import HandS.TupMul
import HandS.TryOnly
import HandS.Style
import HandS.Flow
import HandS.Deep
import HandS.ForExc
import HandS.ExcInit
import HandS.ExcIs
import HandS.ExcField
import HandS.Defaults
import HandS.RaiseMore
import KE.KExcIs
import HandS.OwnEq
import HandS.SlotsOwn
import PyProof.InstNe
import HandS.DictComp
import PyProof.Rows.FloatCmp
import KE.KOpsOwn
import OpenK.KMeth
import HandS.Property
import HandS.Gcd
import HandS.ListItems
import HandS.Zip
import HandS.GenList
import KE.GoesZip
import KE.KItemsList
import PyProof.ZipIter
import HandS.FStr
import HandS.Text
import KE.KCallOwn
import KE.KIntText
import PyProof.Rows.ReprOcc
import KE.KxField
import KE.KFmtOwn
import PyProof.ReprRoads
import PyProof.CallFns
import HandS.Nested
import HandS.EndOwn
import HandS.ExcOwn
import OpenK.KOps
import HandS.ClsMeth
import HandS.IterVal
import OpenK.KCls
import HandS.ExcValue
import HandS.TryMany
import HandS.Star
import HandS.StrMore
import PySem.Challenge.RW_ringsums_k55_paces_and_hops
set_option Elab.async false
set_option linter.all false
set_option maxRecDepth 100000
set_option maxHeartbeats 4000000
namespace Rs
open PySem PySem.Spec PyProof.Rows L2

/-! ### what never changes: tuples, instances, their dicts -/
def frozen : HO → Prop
  | .tup _ => True
  | .ins _ _ _ => True
  | .own _ => True
  | .frz _ _ => True
  | _ => False
def Fz (H H' : Hp) : Prop := ∀ a o, frozen o → H a = some o → H' a = some o
theorem Fz.refl (H : Hp) : Fz H H := fun _ _ _ h => h
theorem Fz.trans {H H1 H2 : Hp} (a : Fz H H1) (b : Fz H1 H2) : Fz H H2 := fun x o f h => b x o f (a x o f h)
theorem Fz.of_same {H H' : Hp} (s : Same H H') : Fz H H' := fun a o _ h => s a o h
theorem same_new {H : Hp} {p : Addr} {o : HO} (h : H p = none) : Same H (upd H p o) := fun b x e => by
  rw [upd_ne (ne_of_none e h)]
  exact e
theorem Fz.new {H : Hp} {p : Addr} {o : HO} (h : H p = none) : Fz H (upd H p o) := Fz.of_same (same_new h)
theorem Fz.lst {H : Hp} {p : Addr} {xs : List V} {o : HO} (h : H p = some (.lst xs)) : Fz H (upd H p o) := fun a u f e => by
  have : a ≠ p := by
    rintro rfl
    rw [h] at e
    cases e
    exact f
  rw [upd_ne this]
  exact e

/-! ### data of tuples -/
mutual
inductive Dt (K : PySem.W.Frag) (H : Hp) : V → PyData → Prop
  | non : Dt K H .non .none
  | bl (b : Bool) : Dt K H (.bl b) (.bool b)
  | int (i : Int) : Dt K H (.int i) (.int i)
  | str (x : Str) : Dt K H (.str x) (.str x)
  | tup {a : Addr} {xs : List V} {ds : List PyData} : SqT K H a xs → DtAll K H xs ds → Dt K H (.ref a) (.tuple ds)
inductive DtAll (K : PySem.W.Frag) (H : Hp) : List V → List PyData → Prop
  | nil : DtAll K H [] []
  | cons {v : V} {vs : List V} {d : PyData} {ds : List PyData} : Dt K H v d → DtAll K H vs ds → DtAll K H (v :: vs) (d :: ds)
end
theorem Fz.sqT {K : PySem.W.Frag} {H H' : Hp} {a : Addr} {xs : List V} (e : Fz H H') (h : SqT K H a xs) : SqT K H' a xs := by
  rcases h with (h | ⟨o, h⟩) | h
  · exact .inl (.inl (e _ _ trivial h))
  · exact .inl (.inr ⟨o, e _ _ trivial h⟩)
  · exact .inr h
mutual
theorem Dt.mono {K : PySem.W.Frag} {H H' : Hp} (e : Fz H H') : ∀ {v : V} {d : PyData}, Dt K H v d → Dt K H' v d
  | _, _, .non => .non
  | _, _, .bl b => .bl b
  | _, _, .int i => .int i
  | _, _, .str x => .str x
  | _, _, .tup h hs => .tup (e.sqT h) (DtAll.mono e hs)
theorem DtAll.mono {K : PySem.W.Frag} {H H' : Hp} (e : Fz H H') : ∀ {v : List V} {d : List PyData}, DtAll K H v d → DtAll K H' v d
  | _, _, .nil => .nil
  | _, _, .cons h hs => .cons (h.mono e) (DtAll.mono e hs)
end
mutual
theorem Dt.dp {K : PySem.W.Frag} {H : Hp} : ∀ {v : V} {d : PyData}, Dt K H v d → Dp K H v d
  | _, _, .non => .non
  | _, _, .bl b => .bl b
  | _, _, .int i => .int i
  | _, _, .str x => .str x
  | _, _, .tup h hs => .tup h (DtAll.dp hs)
theorem DtAll.dp {K : PySem.W.Frag} {H : Hp} : ∀ {v : List V} {d : List PyData}, DtAll K H v d → DpAll K H v d
  | _, _, .nil => .nil
  | _, _, .cons h hs => .cons h.dp (DtAll.dp hs)
end
theorem DtAll.length {K : PySem.W.Frag} {H : Hp} : ∀ {v : List V} {d : List PyData}, DtAll K H v d → v.length = d.length
  | _, _, .nil => rfl
  | _, _, .cons _ hs => congrArg (· + 1) hs.length
theorem DtAll.append {K : PySem.W.Frag} {H : Hp} : ∀ {v w : List V} {d e : List PyData}, DtAll K H v d → DtAll K H w e → DtAll K H (v ++ w) (d ++ e)
  | _, _, _, _, .nil, k => k
  | _, _, _, _, .cons h hs, k => .cons h (hs.append k)
theorem DtAll.get {K : PySem.W.Frag} {H : Hp} : ∀ {v : List V} {d : List PyData} {i : Nat} {x : PyData}, DtAll K H v d → d[i]? = some x → ∃ y, v[i]? = some y ∧ Dt K H y x
  | _, _, i, x, .nil, e => by simp at e
  | _, _, 0, x, .cons h _, e => ⟨_, rfl, by
      have : _ = x := Option.some.inj e
      exact this ▸ h⟩
  | _, _, i + 1, x, .cons _ hs, e => by
    have e' := e
    simp only [List.getElem?_cons_succ] at e' ⊢
    exact hs.get e'
theorem DtAll.getV {K : PySem.W.Frag} {H : Hp} : ∀ {v : List V} {d : List PyData} {i : Nat} {y : V}, DtAll K H v d → v[i]? = some y → ∃ x, d[i]? = some x ∧ Dt K H y x
  | _, _, i, x, .nil, e => by simp at e
  | _, _, 0, x, .cons h _, e => ⟨_, rfl, by
      have : _ = x := Option.some.inj e
      exact this ▸ h⟩
  | _, _, i + 1, x, .cons _ hs, e => by
    have e' := e
    simp only [List.getElem?_cons_succ] at e' ⊢
    exact hs.getV e'

/-! ### the box of draws -/
structure BoxI (x y z : Int) : Prop where
  x0 : 0 ≤ x
  y1 : 1 ≤ y
  y2 : y ≤ 2147483629
def boxL (x y z : Int) : List V := [.int x, .int y, .int z]
def Box (H : Hp) (b : Addr) : Prop := ∃ x y z, H b = some (.lst (boxL x y z)) ∧ BoxI x y z
/-- all but the list at b is as it was -/
def But (b : Addr) (H H' : Hp) : Prop := ∀ a o, a ≠ b → H a = some o → H' a = some o
theorem But.refl (b : Addr) (H : Hp) : But b H H := fun _ _ _ h => h
theorem But.trans {b : Addr} {H H1 H2 : Hp} (x : But b H H1) (y : But b H1 H2) : But b H H2 := fun a o n h => y a o n (x a o n h)
theorem But.of_same {b : Addr} {H H' : Hp} (s : Same H H') : But b H H' := fun a o _ h => s a o h
theorem But.upd {b : Addr} {H H' : Hp} {o : HO} (s : But b H H') : But b H (upd H' b o) := fun a u n h => by
  rw [upd_ne n]
  exact s a u n h
theorem Box.same {b : Addr} {H H' : Hp} (x : Box H b) (s : Same H H') : Box H' b := by
  obtain ⟨x, y, z, h, i⟩ := x
  exact ⟨x, y, z, s _ _ h, i⟩
theorem Box.fz {b : Addr} {H H' : Hp} (x : Box H b) (s : But b H H') : Fz H H' := fun a o f h => by
  refine s a o ?_ h
  rintro rfl
  obtain ⟨x, y, z, h', i⟩ := x
  rw [h'] at h
  cases h
  exact f
theorem Box.ne_none {b p : Addr} {H : Hp} (x : Box H b) (h : H p = none) : p ≠ b := by
  rintro rfl
  obtain ⟨x, y, z, h', i⟩ := x
  rw [h] at h'
  cases h'
theorem ifB {b : Bool} {A B : Prop} (h1 : b = true → A) (h2 : b = false → B) : if b = true then A else B := by
  cases b with
  | true => rw [if_pos rfl]; exact h1 rfl
  | false => rw [if_neg Bool.false_ne_true]; exact h2 rfl
theorem ifD {c A B : Prop} [Decidable c] (h1 : c → A) (h2 : ¬ c → B) : if decide c = true then A else B := ifB (fun e => h1 (of_decide_eq_true e)) (fun e => h2 (of_decide_eq_false e))
theorem ifN {c A B : Prop} [Decidable c] (h1 : ¬ c → A) (h2 : c → B) : if (!decide c) = true then A else B := by
  by_cases h : c
  · rw [decide_eq_true h]; exact h2 h
  · rw [decide_eq_false h]; exact h1 h
theorem ifT {b : Bool} {A B : Prop} (e : b = true) (h1 : A) : if b = true then A else B := by rw [if_pos e]; exact h1
theorem ifF {b : Bool} {A B : Prop} (e : b = false) (h1 : B) : if b = true then A else B := by rw [e, if_neg Bool.false_ne_true]; exact h1
theorem szL {n : Nat} (h : n ≤ 1000) : n ≤ sizeLine := Nat.le_trans h (by decide)
theorem szl {n : Nat} (h : n ≤ 1000) : n < sizeLine := Nat.lt_of_le_of_lt h (by decide)
theorem atI_ok {xs : List V} {i : Int} {j : Nat} {v : V} (h0 : 0 ≤ i) (e : i.toNat = j) (h : xs[j]? = some v) : atI xs i = some v := at_of (by omega) h
theorem ints_at {ns : List Int} {k : Int} (h0 : 0 ≤ k) (h1 : k < ns.length) : ∃ z, atI (ns.map V.int) k = some (.int z) := by
  have h2 : k.toNat < ns.length := by omega
  exact ⟨ns[k.toNat], atI_ok h0 rfl (by rw [List.getElem?_map, List.getElem?_eq_getElem h2]; rfl)⟩
theorem range_succ_map {α : Type} (f : Nat → α) (i : Nat) : (List.range (i + 1)).map f = (List.range i).map f ++ [f i] := by
  rw [List.range_succ, List.map_append]; rfl
theorem DtAll.snoc {K : PySem.W.Frag} {H : Hp} {v : List V} {d : List PyData} {x : V} {y : PyData} (h : DtAll K H v d) (k : Dt K H x y) : DtAll K H (v ++ [x]) (d ++ [y]) := h.append (.cons k .nil)
theorem same_lst {H H' : Hp} {p : Addr} {o : HO} (s : Same H H') (n : H p = none) : Same H (upd H' p o) := fun a u e => by
  rw [upd_ne (ne_of_none e n)]
  exact s a u e
theorem natAbs_abs {i : Int} : 0 ≤ (if i < 0 then -i else i) := by split <;> omega
theorem pick2 (b : Bool) (u v : Int) : atI [.int u, .int v] (if b = true then 1 else 0) = some (V.int (if b = true then v else u)) := by
  cases b <;> rfl
theorem ite_ge0 {b : Bool} {u v : Int} (h1 : 0 ≤ u) (h2 : 0 ≤ v) : 0 ≤ (if b = true then v else u) := by cases b <;> assumption
theorem mem_at {xs : List V} {k : Int} (h0 : 0 ≤ k) (h1 : k < xs.length) : ∃ v, v ∈ xs ∧ atI xs k = some v := by
  have h2 : k.toNat < xs.length := by omega
  exact ⟨xs[k.toNat], List.getElem_mem h2, atI_ok h0 rfl (List.getElem?_eq_getElem h2)⟩
/-! reading tuples of data -/
def atD (ds : List PyData) (i : Int) : Option PyData := (ixN ds.length i).bind fun j => ds[j]?
theorem DtAll.at {K : PySem.W.Frag} {H : Hp} {xs : List V} {ds : List PyData} {i : Int} {d : PyData} (h : DtAll K H xs ds) (e : atD ds i = some d) : ∃ v, atI xs i = some v ∧ Dt K H v d := by
  unfold atD at e
  unfold atI
  rw [h.length]
  cases q : ixN ds.length i with
  | none => rw [q] at e; cases e
  | some j =>
    rw [q] at e
    exact h.get e
theorem rix_dt {K : PySem.W.Frag} {H : Hp} {v : V} {i : Int} {ds : List PyData} {d : PyData} {Q : VK} (h : Dt K H v (.tuple ds)) (e : atD ds i = some d) (q : ∀ y, Dt K H y d → Q y H) : rIxT K v (.int i) H Q := by
  cases h with
  | tup hs ha =>
    obtain ⟨y, h1, h2⟩ := ha.at e
    exact ⟨_, _, _, _, rfl, rfl, hs, h1, q y h2⟩
theorem Dt.int_eq {K : PySem.W.Frag} {H : Hp} {v : V} {i : Int} (h : Dt K H v (.int i)) : v = .int i := by cases h; rfl
theorem Dt.str_eq {K : PySem.W.Frag} {H : Hp} {v : V} {i : Str} (h : Dt K H v (.str i)) : v = .str i := by cases h; rfl
theorem atD_nat {ds : List PyData} {j : Nat} {d : PyData} (e : ds[j]? = some d) : atD ds ((j : Nat) : Int) = some d := by
  have h := (List.getElem?_eq_some_iff.mp e).1
  unfold atD ixN
  rw [if_pos (by omega), if_pos (by omega)]
  exact e
theorem atD_last {ds : List PyData} {d : PyData} (h : 0 < ds.length) (e : ds[ds.length - 1]? = some d) : atD ds (-1) = some d := by
  unfold atD ixN
  rw [if_neg (by omega), if_pos (by omega)]
  show ds[((-1 : Int) + ds.length).toNat]? = some d
  rw [show ((-1 : Int) + ds.length).toNat = ds.length - 1 by omega]
  exact e
def tyD : PyData → String
  | .none => "NoneType"
  | .bool _ => "bool"
  | .int _ => "int"
  | .str _ => "str"
  | .list _ => "list"
  | .tuple _ => "tuple"
  | .dict _ => "dict"
theorem sqT_ty {K : PySem.W.Frag} {H : Hp} {a : Addr} {xs : List V} (h : SqT K H a xs) : TyX K H (.ref a) (.type "tuple") := by
  rcases h with (h | ⟨o, h⟩) | ⟨o, its, n, h1, h2, _⟩
  · exact .base (.tup h)
  · exact .fTuple h
  · exact .kTuple h1 h2
theorem Dt.ty {K : PySem.W.Frag} {H : Hp} {v : V} {d : PyData} (h : Dt K H v d) : TyX K H v (.type (tyD d)) := by
  cases h with
  | non => exact .base .non
  | bl b => exact .base (.bl b)
  | int i => exact .base (.int i)
  | str x => exact .base (.str x)
  | tup h _ => exact sqT_ty h
theorem neF {a b : Int} (h : a = b) : (!decide (V.int a = V.int b)) = false := by rw [h]; simp
theorem Dt.len {K : PySem.W.Frag} {H : Hp} {a : Addr} {ds : List PyData} (h : Dt K H (.ref a) (.tuple ds)) : ∃ xs, SqT K H a xs ∧ xs.length = ds.length ∧ DtAll K H xs ds := by
  cases h with
  | tup h hs => exact ⟨_, h, hs.length, hs⟩

structure okD (k : Nat) (d : PyData) : Prop where
  lay : d.canLay0 = true
  dep : d.depth ≤ k
theorem okD.mono {k l : Nat} {d : PyData} (h : okD k d) (e : k ≤ l) : okD l d := ⟨h.lay, Nat.le_trans h.dep e⟩
theorem okD_all {k : Nat} : ∀ {ds : List PyData}, (∀ d ∈ ds, okD k d) → PyData.canLayAll0 ds = true ∧ PyData.depthAll ds ≤ k
  | [], _ => ⟨rfl, Nat.zero_le _⟩
  | d :: ds, h => by
    have h1 := h d List.mem_cons_self
    have h2 := okD_all (ds := ds) fun x hx => h x (List.mem_cons_of_mem _ hx)
    refine ⟨?_, ?_⟩
    · show (PyData.canLay0 d && PyData.canLayAll0 ds) = true
      rw [h1.lay, h2.1]; rfl
    · show max (PyData.depth d) (PyData.depthAll ds) ≤ k
      exact Nat.max_le.mpr ⟨h1.dep, h2.2⟩
theorem okD.tuple {k : Nat} {ds : List PyData} (h : ∀ d ∈ ds, okD k d) : okD (k + 1) (.tuple ds) :=
  have q := okD_all h
  ⟨q.1, Nat.succ_le_succ q.2⟩
theorem okD.list {k : Nat} {ds : List PyData} (h : ∀ d ∈ ds, okD k d) : okD (k + 1) (.list ds) :=
  have q := okD_all h
  ⟨q.1, Nat.succ_le_succ q.2⟩
theorem okD.shaped {k : Nat} {d : PyData} (h : okD k d) (hk : k ≤ 64) : SeqAt.shaped d = true := by
  unfold SeqAt.shaped
  rw [h.lay, decide_eq_true (Nat.le_trans h.dep hk)]; rfl
theorem eqv_self {k : Nat} {d : PyData} (h : okD k d) : PyData.eqv d d = true := SeqAt.eqv_refl d h.lay
theorem rne_dt {K : PySem.W.Frag} {H : Hp} {x y : V} {k : Nat} {d : PyData} {Q : VK} (hx : Dt K H x d) (hy : Dt K H y d) (o : okD k d) (hk : k ≤ 64) (q : Q (.bl false) H) : rNeD K x y H Q :=
  ⟨d, d, hx.dp, hy.dp, o.shaped hk, o.shaped hk, by rw [eqv_self o]; exact q⟩
theorem req_dt {K : PySem.W.Frag} {H : Hp} {x y : V} {k : Nat} {d : PyData} {Q : VK} (hx : Dt K H x d) (hy : Dt K H y d) (o : okD k d) (hk : k ≤ 64) (q : Q (.bl true) H) : rEqD K x y H Q :=
  ⟨d, d, hx.dp, hy.dp, o.shaped hk, o.shaped hk, by rw [eqv_self o]; exact q⟩

theorem atD0 {ds : List PyData} {d : PyData} (e : ds[0]? = some d) : atD ds 0 = some d := atD_nat (j := 0) e
theorem atD1 {ds : List PyData} {d : PyData} (e : ds[1]? = some d) : atD ds 1 = some d := atD_nat (j := 1) e
theorem atD2 {ds : List PyData} {d : PyData} (e : ds[2]? = some d) : atD ds 2 = some d := atD_nat (j := 2) e
theorem atD3 {ds : List PyData} {d : PyData} (e : ds[3]? = some d) : atD ds 3 = some d := atD_nat (j := 3) e
theorem atDi {ds : List PyData} {d : PyData} {i : Int} {j : Nat} (h : i = (j : Int)) (e : ds[j]? = some d) : atD ds i = some d := by
  subst h
  exact atD_nat e

theorem floor_step {a b n : Int} (h : 0 < n) : b / n ≤ (a + b) / n - a / n ∧ (a + b) / n - a / n ≤ b / n + 1 := by
  have ha := Int.emod_add_mul_ediv a n
  have hb := Int.emod_add_mul_ediv b n
  have a0 := Int.emod_nonneg a (show n ≠ 0 by omega)
  have a1 := Int.emod_lt_of_pos a h
  have b0 := Int.emod_nonneg b (show n ≠ 0 by omega)
  have b1 := Int.emod_lt_of_pos b h
  have e : (a + b) / n = a / n + b / n + (a % n + b % n) / n := by
    have : a + b = (a % n + b % n) + n * (a / n + b / n) := by rw [Int.mul_add]; omega
    rw [this, Int.add_mul_ediv_left _ _ (by omega), Int.add_comm]
  have q0 : 0 ≤ (a % n + b % n) / n := Int.ediv_nonneg (by omega) (by omega)
  have q1 : (a % n + b % n) / n < 2 := by
    apply Int.ediv_lt_of_lt_mul h
    omega
  omega

theorem take_snoc {α : Type} {l : List α} {i : Nat} {x : α} (h : l[i]? = some x) : l.take (i + 1) = l.take i ++ [x] := by
  rw [List.take_add_one, h]; rfl
theorem map_int_get {acc : List Int} {i : Nat} {x : V} (h : (acc.map V.int)[i]? = some x) : ∃ z, acc[i]? = some z ∧ x = .int z := by
  rw [List.getElem?_map] at h
  cases e : acc[i]? with
  | none => rw [e] at h; cases h
  | some z =>
    rw [e] at h
    exact ⟨z, rfl, (Option.some.inj h).symm⟩

theorem Dt.ix {K : PySem.W.Frag} {H : Hp} {v : V} {i : Int} {ds : List PyData} {d : PyData} (h : Dt K H v (.tuple ds)) (e : atD ds i = some d) : ∃ a xs y, v = .ref a ∧ SqT K H a xs ∧ atI xs i = some y ∧ Dt K H y d := by
  cases h with
  | tup hs ha =>
    obtain ⟨y, h1, h2⟩ := ha.at e
    exact ⟨_, _, _, rfl, hs, h1, h2⟩

/-! displays of data -/
def EvD (K : PySem.W.Frag) (te : TE) (σ : L2.St) (H : Hp) (d : PyData) : Prop := ∀ Q : VK, (∀ v H', Same H H' → Dt K H' v d → Q v H') → te σ H Q
def EvDs (K : PySem.W.Frag) (ta : TA) (σ : L2.St) (H : Hp) (ds : List PyData) : Prop := ∀ Q : List V → Hp → Prop, (∀ vs H', Same H H' → DtAll K H' vs ds → Q vs H') → ta σ H Q
section
variable {K : PySem.W.Frag} {σ : L2.St} {H : Hp}
theorem evd_int {i : Int} : EvD K (tC (.int i)) σ H (.int i) := fun _ q => q _ _ (Same.refl _) (.int i)
theorem evd_str {i : Str} : EvD K (tC (.str i)) σ H (.str i) := fun _ q => q _ _ (Same.refl _) (.str i)
theorem evd_non : EvD K (tC .non) σ H .none := fun _ q => q _ _ (Same.refl _) .non
theorem evd_bl {b : Bool} : EvD K (tC (.bl b)) σ H (.bool b) := fun _ q => q _ _ (Same.refl _) (.bl b)
theorem evd_nil : EvDs K tNil σ H [] := fun _ q => q _ _ (Same.refl _) .nil
theorem evd_cons {te : TE} {ta : TA} {d : PyData} {ds : List PyData} (h : EvD K te σ H d) (hr : ∀ H', EvDs K ta σ H' ds) : EvDs K (tCons te ta) σ H (d :: ds) := fun Q q =>
  h _ fun v H1 s1 d1 => hr H1 _ fun vs H2 s2 d2 => q _ _ (s1.trans s2) (.cons (d1.mono (Fz.of_same s2)) d2)
theorem evd_tup {ta : TA} {ds : List PyData} (h : EvDs K ta σ H ds) (hl : ds.length ≤ 1000) : EvD K (tTup ta) σ H (.tuple ds) := fun Q q =>
  h _ fun vs H1 s1 d1 => ⟨szL (by rw [d1.length]; exact hl), fun p hp => q _ _ (s1.trans (same_new hp)) (.tup (SqT.of upd_same) (d1.mono (Fz.new hp)))⟩
end
theorem same_but {b : Addr} {H H1 H2 : Hp} (s : Same H H1) (k : But b H1 H2) (n : H b = none) : Same H H2 := fun a o h => k a o (ne_of_none h n) (s a o h)

theorem rel_ref (a : Addr) : RelV (.ref a) (Value.ref a) := rfl
end Rs
/-! Own exceptions with a field; objects made within a try. -/
namespace Rs
open PySem PySem.Spec PyProof.Rows L2
/-! ### C(e, ..) where what its __init__ lets out is wished for at the caller's slots -/
section
variable {X : Cx} {CX : CXT} {k : Nat} {f C : Addr} {fd : FuncData} {ps : List Str} {sp : Sp} {E : L2.St → XK} {x : Str} {p pos : Pos} {e : Expr} {es : List Expr} {t : TA}
theorem run_makeS {pins : List (Addr × Obj)} {σ : L2.St} {H : Hp} {s : Shared} {Q : VK} {us : List Value} {vs : List V} (M : Mk X.K C f) (F : FnOk X.prog X.w X.K X.mg X.base CX k f fd ps sp) (hr : Room (k + 1) X.A) (hb : Binds X.K fd ps [])
    (hx : PassesAt CX X σ (E σ)) (I : Inv X pins σ H s) (r : Vals vs us)
    (pre : ∀ x dx, H x = none → H dx = none → dx ≠ x → sp (.ref x :: vs) (upd (upd H dx (.own x)) x (.ins C dx [])) (fun v H2 => v = .non ∧ Q (.ref x) H2) (E σ))
    (out : ∀ H1 s1 e s2, Inv X pins σ H1 s1 → L2.CX X.prog X.w X.stack H1 s1 (E σ) e s2 → X.xe e s2) (hCX : CX = L2.CX X.prog X.w) :
    wpAny (model X.prog X.w) X.A (call (.ref C) us) (EP X pins σ Q) X.xe s := by
  subst hCX
  have p0 := pre (s.heap.objs.size + 1) s.heap.objs.size (I.hok.fresh (Nat.le_succ _)) (I.hok.fresh (Nat.le_refl _)) (Nat.ne_of_lt (Nat.lt_succ_self _))
  have J := Inv.made (C := C) I
  have rel : Vals (V.ref (s.heap.objs.size + 1) :: vs) (Value.ref (s.heap.objs.size + 1) :: us) := .cons rfl r
  have n1 : (Value.ref (s.heap.objs.size + 1) :: us).length = ps.length := by rw [← rel.length]; exact F.len _ _ _ _ p0
  have bd := hb _ (Value.ref (s.heap.objs.size + 1) :: us) J.kIn (by rw [List.append_nil]; exact n1)
  rw [List.append_nil] at bd
  have ran := F.run _ X.stack _ _ ⟨Value.ref (s.heap.objs.size + 1) :: us, []⟩ _ _ _ (E σ) (hr.make C us []) (J.env0.make C us []) bd rel p0
  refine wpAny_call (make_map (f := f) I.kIn M.makes M.init (beq_iff_eq.mp M.fn) (codeAny_mono ran fun r s' got => ?_))
  cases r with
  | error e => exact out _ _ _ _ J got
  | ok fl =>
    cases fl with
    | next => exact got.elim
    | brk => exact got.elim
    | cont => exact got.elim
    | ret u =>
      obtain ⟨v, H', J2, rv, rfl, q⟩ := J.after got
      exact ⟨rv, .ref (s.heap.objs.size + 1), H', J2, rfl, q⟩
def tMakeS (C : Addr) (sp : Sp) (E : L2.St → XK) (t : TA) : TE := fun σ H Q => t σ H fun vs H1 => ∀ x dx, H1 x = none → H1 dx = none → dx ≠ x →
  sp (.ref x :: vs) (upd (upd H1 dx (.own x)) x (.ins C dx [])) (fun v H2 => v = .non ∧ Q (.ref x) H2) (E σ)
theorem pe_makeS {W : WX} (M : Mk X.K C f) (F : FnOk X.prog X.w X.K X.mg X.base (L2.CX X.prog X.w) k f fd ps sp) (hr : Room (k + 1) X.A) (hg : Gl X x) (hm : X.mg x = some (.ref C)) (hb : Binds X.K fd ps []) (tk : Takes X W)
    (ha : PA X (e :: es) t) (hdb : (x == ("__debug__" : Str)) = false := by decide) (he : starEach (e :: es) X.env = (false, eval e X.env) :: starEach es X.env := by rfl) (hpl : (backTo pos (starEach es X.env)).any (·.1) = false := by rfl) :
    PE X (.Call (.Name x p) (e :: es) [] pos) (tMakeS C sp (WE W) t) := by
  refine ⟨fun pins s σ H Q I h => wpAny_Call_Name_kw (ld_glob I hg hm ?_ hdb)⟩
  refine PySem.W.callWith_K (h₀ := X.base) I.ok.mod.kin M.kp (thn (ha.run pos pins s σ H _ I h) fun us s1 res => ?_) he hpl
  obtain ⟨vs, H1, I1, r, q⟩ := res
  exact ⟨I1.kIn, run_makeS M F hr hb (passAt tk σ) I1 r q (fun H1 s1 e s2 J c => tk e s2 (XE.of_call J (fun _ _ _ h => h) c)) rfl⟩
end
/-! ### isinstance of a caught exception that has a field -/
structure ExX (K : PySem.W.Frag) (C : Addr) : Prop where
  cl : (PySem.W.clsIn K C).isSome = true
  ga : PySem.W.findIn K (.ref C) "__getattribute__" = some (some (.builtin "BaseException.__getattribute__"))
  gg : PySem.W.findIn K (.ref C) "__getattr__" = some none
  sb : PySem.W.subIn K (.ref C) (.type "BaseException") = some true
  ca : PySem.W.findIn K (.ref C) "__class__" = some (some (.builtin "object.__class__"))
  sp : PySem.W.specialIn K (.builtin "object.__class__") "__get__" = some (some (.builtin "getset_descriptor.__get__"))
  tk : PySem.W.takesIn K (.builtin "object.__class__") = some true
  mo : PySem.W.mroIn K C (.type "object") = some true
section
variable {X : Cx} {pins : List (Addr × Obj)} {σ : L2.St} {H : Hp} {s : Shared} {a C : Addr} {oe : Obj} {cls : Value} {d : Option Addr} {pn : List (Addr × Obj)}
theorem caught_at (I : Inv (X.suite a ((a, oe) :: pn)) pins σ H s) (hz : Zc cls d oe) (hf : ∃ vs, oe.data = .fields vs) {dd : Addr} {fs : List (Str × V)} (ec : cls = .ref C) (ed : d = some dd) (hd : H dd = some (.xd fs)) :
    ∃ od, PySem.W.InstAt s.heap a oe C (some od) := by
  subst ec ed
  obtain ⟨here, _⟩ := I.pin (a, oe) (List.mem_append_left _ List.mem_cons_self)
  obtain ⟨vs, hv⟩ := hf
  obtain ⟨mA, ns, _⟩ := (show ObjOk X.prog X.w H s.heap dd (.xd fs) from I.hok dd _ hd)
  obtain ⟨od, ho, _⟩ := lookIn_ns ns
  exact ⟨od, here, hz.1, by unfold PySem.W.notCls; rw [hv] <;> rfl, by rw [hz.2]; exact ho⟩
def rIsX (K : PySem.W.Frag) (a : Addr) (cls : Value) (d : Option Addr) (C : Addr) : List V → Hp → VK → Prop := fun xs H Q => ∃ (c : V) (cv : Value) (b : Bool) (dd : Addr) (fs : List (Str × V)), xs = [.ref a, c] ∧ ClsV c cv ∧ cls = .ref C ∧ d = some dd ∧ H dd = some (.xd fs) ∧ PySem.W.kitOne K (.ref C) cv = some b ∧ Q (.bl b) H
theorem call_isX (T : ExX X.K C) (hz : Zc cls d oe) (hf : ∃ vs, oe.data = .fields vs) : CallR (X.suite a ((a, oe) :: pn)) (.builtin "isinstance") (rIsX X.K a cls d C) := by
  intro pins s σ H xs us Q I r h
  obtain ⟨c, cv, b, dd, fs, rfl, kc, ec, ed, hd, e, q⟩ := h
  obtain ⟨u1, u2, rfl, r1, r2⟩ := vals2 r
  obtain rfl := kc.eq r2
  cases (show u1 = Value.ref a from r1)
  obtain ⟨od, J⟩ := caught_at I hz hf ec ed hd
  exact PySem.W.kia_one (PySem.W.kitx_exc T.cl T.ga T.gg T.sb T.ca T.sp T.tk T.mo) I.kIn J e (fun z => nomatch z) fun tk => ⟨.bl b, H, I.tok tk, rfl, q⟩
def rIsXT (K : PySem.W.Frag) (a : Addr) (cls : Value) (d : Option Addr) (C : Addr) : List V → Hp → VK → Prop := fun xs H Q => ∃ (tp : Addr) (cs : List V) (ws : List Value) (b : Bool) (dd : Addr) (fs : List (Str × V)), xs = [.ref a, .ref tp] ∧ H tp = some (.tup cs) ∧ Paired ClsV cs ws ∧
  cls = .ref C ∧ d = some dd ∧ H dd = some (.xd fs) ∧ PySem.W.kitAny K (.ref C) ws = some b ∧ Q (.bl b) H
theorem call_isXT (T : ExX X.K C) (hz : Zc cls d oe) (hf : ∃ vs, oe.data = .fields vs) : CallR (X.suite a ((a, oe) :: pn)) (.builtin "isinstance") (rIsXT X.K a cls d C) := by
  intro pins s σ H xs us Q I r h
  obtain ⟨tp, cs, ws, b, dd, fs, rfl, hT, kc, ec, ed, hd, e, q⟩ := h
  obtain ⟨u1, u2, rfl, r1, r2⟩ := vals2 r
  cases (show u1 = Value.ref a from r1)
  cases (show u2 = Value.ref tp from r2)
  obtain ⟨od, J⟩ := caught_at I hz hf ec ed hd
  obtain ⟨_, its, rv, o, h1, h2, n, h3⟩ := (show ObjOk X.prog X.w H s.heap tp (.tup cs) from I.hok tp _ hT)
  obtain rfl := ClsV.all kc rv
  obtain ⟨oc, od', dt, sl⟩ := o
  simp only at h2 h3
  subst h2 h3
  exact PySem.W.kia_tup (PySem.W.kitx_exc T.cl T.ga T.gg T.sb T.ca T.sp T.tk T.mo) I.kIn J h1 e (fun z => nomatch z) fun tk => ⟨.bl b, H, I.tok tk, rfl, q⟩
end
/-! ### the promise of an __init__(self, word): self.word = word -/
def spExc (C : Addr) (f : Str) : Sp := fun vs H Q _ => ∃ (a : Addr) (v : V), vs = [.ref a, v] ∧ H a = some (exo a C none) ∧ ∀ dx, H dx = none → dx ≠ a → Q .non (upd (upd H dx (exd dx [(f, v)])) a (exo a C (some dx)))
/-- the heap behind an exception's making -/
theorem made_heap {H : Hp} {a dx : Addr} {o1 o2 o3 o : HO} (ha : H a = none) (ne : dx ≠ a) : upd (del (upd (upd (upd H a o1) dx o2) a o3) a) dx o = upd H dx o := by
  funext b
  by_cases h1 : b = dx
  · subst h1; rw [upd_same, upd_same]
  · rw [upd_ne h1, upd_ne h1]
    by_cases h2 : b = a
    · subst h2; rw [del_same, ha]
    · rw [del_ne h2, upd_ne h2, upd_ne h1, upd_ne h2]
/-- what C(v) asks, where C's __init__ keeps spExc: its dict is new, the rest as it was -/
theorem make_exc {C : Addr} {f : Str} {v : V} {σ : L2.St} {H : Hp} {Q : XK} (h : ∀ d, H d = none → Q (.ref C) (some d) (upd H d (.xd [(f, v)]))) : tMkO C (spExc C f) [] (tCons (tC v) tNil) σ H Q := by
  refine ⟨by show 1 ≤ 1000; decide, fun a ha => ⟨a, v, rfl, upd_same, fun dx hdx ne => ⟨rfl, dx, [(f, v)], upd_same, by rw [upd_ne ne, upd_same], ?_, ?_⟩⟩⟩
  · rw [upd_ne ne] at hdx
    exact hdx
  · rw [made_heap ha ne]
    exact h dx (by rw [upd_ne ne] at hdx; exact hdx)
end Rs
/-! Values of any kind, told by their outermost shape. -/
namespace Rs
open PySem PySem.Spec PyProof.Rows L2
def Sh (b : Addr) (H : Hp) : V → Prop
  | .non => True
  | .bl _ => True
  | .int _ => True
  | .str _ => True
  | .ref a => a ≠ b ∧ ((∃ xs, H a = some (.lst xs)) ∨ ∃ xs, H a = some (.tup xs))
  | _ => False
theorem Sh.but {b : Addr} {H H' : Hp} {v : V} (h : Sh b H v) (k : But b H H') : Sh b H' v := by
  cases v with
  | ref a =>
    obtain ⟨ne, ⟨xs, e⟩ | ⟨xs, e⟩⟩ := h
    · exact ⟨ne, .inl ⟨xs, k a _ ne e⟩⟩
    · exact ⟨ne, .inr ⟨xs, k a _ ne e⟩⟩
  | non => trivial
  | bl _ => trivial
  | int _ => trivial
  | str _ => trivial
  | byt _ => exact h
  | flt _ => exact h
  | ty _ => exact h
def isInt : V → Bool
  | .int _ => true
  | _ => false
def isBl : V → Bool
  | .bl _ => true
  | _ => false
theorem Sh.ty {K : PySem.W.Frag} {b : Addr} {H : Hp} {v : V} (h : Sh b H v) : ∃ t, TyX K H v (.type t) ∧ kitB t "int" = some (isInt v || isBl v) ∧ kitB t "bool" = some (isBl v) := by
  cases v with
  | non => exact ⟨"NoneType", .base .non, by decide +kernel, by decide +kernel⟩
  | bl x => exact ⟨"bool", .base (.bl x), (by decide +kernel : kitB "bool" "int" = some true), (by decide +kernel : kitB "bool" "bool" = some true)⟩
  | int x => exact ⟨"int", .base (.int x), (by decide +kernel : kitB "int" "int" = some true), (by decide +kernel : kitB "int" "bool" = some false)⟩
  | str x => exact ⟨"str", .base (.str x), (by decide +kernel : kitB "str" "int" = some false), (by decide +kernel : kitB "str" "bool" = some false)⟩
  | ref a =>
    obtain ⟨ne, ⟨xs, e⟩ | ⟨xs, e⟩⟩ := h
    · exact ⟨"list", .base (.lst e), (by decide +kernel : kitB "list" "int" = some false), (by decide +kernel : kitB "list" "bool" = some false)⟩
    · exact ⟨"tuple", .base (.tup e), (by decide +kernel : kitB "tuple" "int" = some false), (by decide +kernel : kitB "tuple" "bool" = some false)⟩
  | byt _ => exact h.elim
  | flt _ => exact h.elim
  | ty _ => exact h.elim
/-- whether a value is an integer that is no bool -/
def spWhole : Sp := fun vs H Q _ => ∃ (b : Addr) (v : V), vs = [v] ∧ Sh b H v ∧ Q (.bl (isInt v)) H
theorem isInt_bl {v : V} : (isInt v || isBl v) = true → (!isBl v) = isInt v := by cases v <;> simp [isInt, isBl]
theorem isInt_no {v : V} : (isInt v || isBl v) = false → false = isInt v := by cases v <;> simp [isInt, isBl]
/-- repr of None and of a text -/
def reprV : V → Str
  | .str x => reprText x
  | _ => "None"
theorem call_repr1 {X : Cx} : CallR X (.builtin "repr") (fun xs H Q => ∃ v, xs = [v] ∧ (v = .non ∨ ∃ x : Str, v = .str x ∧ (reprText x).length ≤ sizeLine) ∧ Q (.str (reprV v)) H) := by
  intro pins s σ H xs us Q I r h
  obtain ⟨v, rfl, rfl | ⟨x, rfl, ln⟩, q⟩ := h
  · obtain ⟨u, rfl, ru⟩ := vals1 r
    obtain rfl : u = Value.none := ru
    exact PySem.P.repr_of_none ⟨.str _, H, I.tok _, ⟨_, rfl⟩, q⟩
  · obtain ⟨u, rfl, t, rfl⟩ := vals1 r
    exact PySem.P.repr_of_str ⟨.str _, H, I.tok _, ⟨_, rfl⟩, q⟩ ln
theorem but_new {b D : Addr} {H H' : Hp} {o : HO} (k : But b H H') (n : H D = none) : But b H (upd H' D o) := fun a u ne e => by
  rw [upd_ne (ne_of_none e n)]
  exact k a u ne e
theorem box_ne {b D : Addr} {H : Hp} {o : HO} (B : Box H b) (ne : D ≠ b) : Box (upd H D o) b := by
  obtain ⟨x, y, z, h, i⟩ := B
  exact ⟨x, y, z, by rw [upd_ne ne.symm]; exact h, i⟩

theorem look1 {f : Str} {v : V} : List.lookup f [(f, v)] = some v := by simp [List.lookup]
theorem Sh.set {b t : Addr} {H : Hp} {v : V} {xs ys : List V} (h : Sh b H v) (e : H t = some (.lst xs)) : Sh b (upd H t (.lst ys)) v := by
  cases v with
  | ref a =>
    obtain ⟨ne, q⟩ := h
    refine ⟨ne, ?_⟩
    by_cases c : a = t
    · subst c
      exact .inl ⟨_, upd_same⟩
    · rw [upd_ne c]
      exact q
  | non => trivial
  | bl _ => trivial
  | int _ => trivial
  | str _ => trivial
  | byt _ => exact h
  | flt _ => exact h
  | ty _ => exact h
end Rs
/-! == and != by an own __eq__, with either answer, of anything. -/
namespace Rs
open PySem PySem.Spec PyProof.Rows L2
/-- what of the class at C: its own __eq__ is g, its != is object's -/
structure OwnQ (K : PySem.W.Frag) (C g : Addr) : Prop where
  eq : PySem.W.findIn K (.ref C) "__eq__" = some (some (.ref g))
  fn : PySem.W.isFn K (.ref g) = true
  ne : PySem.W.findIn K (.ref C) "__ne__" = some (some (.builtin "object.__ne__"))
  mo : PySem.W.mroIn K C (.type "object") = some true
section
variable {M : Model} {prog : Program} {w : World} {A : Around} {E : Value → Shared → Prop} {s : Shared} {K : PySem.W.Frag} {x C f L : Addr} {ox : Obj} {od : Option Obj} {h₀ : Heap} {m : Str → Option Value} {b tb : Value}
theorem ifBound_objNe {args : List Value} {Q : Option Value → Shared → Prop} (X : K.In s.heap) (I : PySem.W.InstAt s.heap x ox C od) (hs : PySem.W.findIn K (.ref C) "__ne__" = some (some (.builtin "object.__ne__")))
    (h : wpAny M A (call (.builtin "object.__ne__") (.ref x :: args)) (fun v => Q (some v)) E s) : wpAny M A (callSpecialIfBound? (.ref x) "__ne__" args) Q E s := by
  simp only [callSpecialIfBound?, bindSpecialIfBound?]
  refine wpAny_holding (wpAny_bind (wpAny_bind (wpAny_bind (I.type.here ((PySem.W.looks_findIn X hs).here ?_)))))
  refine wpAny_bind (wpAny_askSetting (wpAny_ite ?_))
  have fin : wpAny M A (call (.builtin "object.__ne__") ([.ref x] ++ args) >>= fun v => pure (some v)) Q E s := wpAny_bind (wpAny_mono h (fun v s' h' => wpAny_pure h') fun _ _ h' => h')
  split
  · exact wpAny_bind (wpAny_of_eq (F.cmp_object.ne.bind _) (wpAny_pure (by exact fin)))
  · exact wpAny_tryCatch (wpAny_bind (wpAny_of_eq (F.cmp_object.ne.bind _) (wpAny_pure (by exact fin))))
theorem objNe_entry (hu : A.units < cLine) (X : K.In s.heap) (I : PySem.W.InstAt s.heap x ox C od) (O : OwnQ K C f) {Q : Fin → Shared → Prop}
    (hcall : wpAny (model prog w) A (call (.ref f) [.ref x, b]) (fun v s' => ∃ r, v = .bool r ∧ Q (.done (.ret (.bool (!r)))) s') E s) :
    wpAny (model prog w) A (Builtin.«object.__ne__» ⟨[.ref x, b], []⟩) Q E s := by
  unfold Builtin.«object.__ne__»
  repeat (first
    | with_reducible refine wpAny_cRoomFor hu ?_
    | (refine wpAny_bind (m := callSpecialIfBound? (.ref x) (Str.ofString "__eq__") [b])
        (PySem.W.ifBound_K X I O.eq O.fn (wpAny_mono hcall (fun v s' hr => by
          obtain ⟨r, rfl, hq⟩ := hr
          repeat (first | exact hq | exact wpAny_pure hq | exact wpAny_truthy_bool hq | (refine wpAny_bind (m := truthy (.bool _)) (wpAny_truthy_bool ?_)) | wp_step)) fun _ _ e => e)))
    | wp_step)
theorem tryCompare_neO (hu : A.units + 1 < cLine) (X : K.In s.heap) (I : PySem.W.InstAt s.heap x ox C od) (O : OwnQ K C f) {Q : Option Value → Shared → Prop}
    (hcall : wpAny (model prog w) A.in1 (call (.ref f) [.ref x, b]) (fun v s' => ∃ r, v = .bool r ∧ Q (some (.bool (!r))) s') E s) : wpAny (model prog w) A (tryCompare (.ref x) "__ne__" b) Q E s := by
  simp only [tryCompare]
  refine wpAny_bind (ifBound_objNe X I O.ne (wpAny_call (codeAny_call_builtin F.cmp_object.ne.plain F.cmpEntry_ne
    (PySem.W.check_slot F.cmpKind_ne F.cmpSplit_ne (I.type.andThen (PySem.W.looks_mroIn X O.mo)) (F.cmpArgs_ne _ _)
      (objNe_entry (A := A.in1) hu X I O (wpAny_mono hcall (fun v s' hv => ?_) fun _ _ e => e))))))
  obtain ⟨r, rfl, hq⟩ := hv
  first | exact ⟨r, rfl, wpAny_pure hq⟩ | exact ⟨r, rfl, wpAny_pure (wpAny_pure hq)⟩ | exact ⟨r, rfl, hq⟩
theorem rc_neO (hu : A.units + 1 < cLine) (X : K.In s.heap) (I : PySem.W.InstAt s.heap x ox C od) (O : OwnQ K C f) (hb : PySem.W.Looks (model prog w) s.heap (typeOf b) tb) (hn : PySem.W.notFirst K C tb = true) {Q : Value → Shared → Prop}
    (hcall : wpAny (model prog w) A.in1 (call (.ref f) [.ref x, b]) (fun v s' => ∃ r, v = .bool r ∧ Q (.bool (!r)) s') E s) : wpAny (model prog w) A (richCompare .NotEq (.ref x) b) Q E s := by
  have one : wpAny (model prog w) A (tryCompare (.ref x) "__ne__" b) (fun r s' => ∃ v, r = some v ∧ Q v s') E s := tryCompare_neO hu X I O (wpAny_mono hcall (fun v s' hv => by
    obtain ⟨r, rfl, hq⟩ := hv
    exact ⟨r, rfl, _, rfl, hq⟩) fun _ _ e => e)
  unfold richCompare
  simp only [oneThing_ref]
  refine wpAny_holding (wpAny_bind (wpAny_cRoomFor (Nat.lt_of_succ_lt hu) ?_))
  refine wpAny_bind (I.type.here (wpAny_bind (hb.here ?_)))
  split
  · rename_i q
    have e : PySem.W.subIn K tb (.ref C) = some false := by
      rcases Bool.or_eq_true_iff.mp hn with e | e
      · rw [beq_iff_eq.mp e] at q; simp at q
      · exact beq_iff_eq.mp e
    refine wpAny_bind ((PySem.W.looks_subIn X e).here ?_)
    simp only [Bool.false_eq_true, if_false]
    refine wpAny_bind (wpAny_mono one (fun r s' z => ?_) fun _ _ e => e)
    obtain ⟨v, rfl, hq⟩ := z
    exact wpAny_pure hq
  · refine wpAny_bind (wpAny_pure ?_)
    simp only [Bool.false_eq_true, if_false]
    refine wpAny_bind (wpAny_mono one (fun r s' z => ?_) fun _ _ e => e)
    obtain ⟨v, rfl, hq⟩ := z
    exact wpAny_pure hq
end
theorem notFirst_ty {K : PySem.W.Frag} {C : Addr} {T : String} {ns : List String} (e : fastBuiltinMro T = some (ns.map Value.type)) : PySem.W.notFirst K C (.type T) = true := by
  have : PySem.W.subIn K (.type T) (.ref C) = some false := by
    show (fastBuiltinMro T).map (·.contains (.ref C)) = some false
    rw [e]
    simp
  unfold PySem.W.notFirst
  rw [this]
  simp
theorem notFirst_self {K : PySem.W.Frag} {C : Addr} : PySem.W.notFirst K C (.ref C) = true := by simp [PySem.W.notFirst]
theorem nf_none {K : PySem.W.Frag} {C : Addr} : PySem.W.notFirst K C (.type "NoneType") = true := notFirst_ty (ns := ["NoneType", "object"]) (by decide +kernel)
theorem nf_bool {K : PySem.W.Frag} {C : Addr} : PySem.W.notFirst K C (.type "bool") = true := notFirst_ty (ns := ["bool", "int", "object"]) (by decide +kernel)
theorem nf_int {K : PySem.W.Frag} {C : Addr} : PySem.W.notFirst K C (.type "int") = true := notFirst_ty (ns := ["int", "object"]) (by decide +kernel)
theorem nf_str {K : PySem.W.Frag} {C : Addr} : PySem.W.notFirst K C (.type "str") = true := notFirst_ty (ns := ["str", "object"]) (by decide +kernel)
theorem nf_list {K : PySem.W.Frag} {C : Addr} : PySem.W.notFirst K C (.type "list") = true := notFirst_ty (ns := ["list", "object"]) (by decide +kernel)
theorem nf_tuple {K : PySem.W.Frag} {C : Addr} : PySem.W.notFirst K C (.type "tuple") = true := notFirst_ty (ns := ["tuple", "object"]) (by decide +kernel)
section
variable {X : Cx} {CX : CXT} {pins : List (Addr × Obj)} {σ : L2.St} {H : Hp} {s : Shared} {C g : Addr} {n : Nat} {sp : Sp} {E : XK} {x : V} {u t : Value}
theorem ty_looks {M : Model} (I : Inv X pins σ H s) (rx : RelV x u) (ty : TyX X.K H x t) : PySem.W.Looks M s.heap (typeOf u) t := by
  obtain ⟨P, Z, hp, _⟩ := kit_of I rx ty
  exact Z.ty _ _ I.kIn hp
theorem ins_at {a dx : Addr} {fs : List (Str × V)} (I : Inv X pins σ H s) (h : H a = some (.ins C dx fs)) : ∃ ox od, PySem.W.InstAt s.heap a ox C od := by
  obtain ⟨mA, J, _⟩ := ins_get I.hok h
  obtain ⟨od, J, _⟩ := J.look
  exact ⟨_, _, J⟩
/-- x == y, x an instance of the class at C with its own __eq__ -/
def rEqO (K : PySem.W.Frag) (C : Addr) (sp : Sp) (E : XK) : R2 := fun x y H Q => ∃ a dx fs tb, x = .ref a ∧ H a = some (.ins C dx fs) ∧ TyX K H y tb ∧ PySem.W.notFirst K C tb = true ∧ sp [x, y] H Q E
theorem op_eqO (O : OwnQ X.K C g) (F : FnR X.prog X.w X.K X.mg X.base CX n g sp) (hr : Room n X.A) (hx : Passes CX X E) : OpR X (compareOp .Eq) (rEqO X.K C sp E) := by
  intro pins s σ H x y v u Q I rx ry h
  obtain ⟨a, dx, fs, tb, rfl, ha, ty, hn, q⟩ := h
  cases (show v = Value.ref a from rx)
  obtain ⟨ox, od, J⟩ := ins_at I ha
  obtain ⟨m, hF⟩ := I.fr
  show wpAny (model X.prog X.w) X.A (richCompare .Eq (.ref a) u) (EP X pins σ Q) X.xe s
  refine PySem.W.cmp_K (op := .Eq) (tb := tb) hr.units0 hF I.ok.mod.kin J (ty_looks I ry ty) hn O.eq O.fn ?_
  refine wpAny_mono (wpAny_call (run_fnR (us := [.ref a, u]) (vs := [.ref a, y]) F hr hx I (.cons rfl (.cons ry .nil)) q)) (fun w s' z => ?_) fun _ _ x => x
  obtain ⟨z', H', I', rz, qz⟩ := z
  exact SlX.cmpback rz ⟨z', H', I', rz, qz⟩
/-- x != y -/
def rNeO (K : PySem.W.Frag) (C : Addr) (sp : Sp) (E : XK) : R2 := fun x y H Q => ∃ a dx fs tb, x = .ref a ∧ H a = some (.ins C dx fs) ∧ TyX K H y tb ∧ PySem.W.notFirst K C tb = true ∧ sp [x, y] H (fun z H' => ∃ r, z = .bl r ∧ Q (.bl (!r)) H') E
theorem op_neO (O : OwnQ X.K C g) (F : FnR X.prog X.w X.K X.mg X.base CX n g sp) (hr : Room (n + 1) X.A) (hx : Passes CX X E) : OpR X (compareOp .NotEq) (rNeO X.K C sp E) := by
  intro pins s σ H x y v u Q I rx ry h
  obtain ⟨a, dx, fs, tb, rfl, ha, ty, hn, q⟩ := h
  cases (show v = Value.ref a from rx)
  obtain ⟨ox, od, J⟩ := ins_at I ha
  show wpAny (model X.prog X.w) X.A (richCompare .NotEq (.ref a) u) (EP X pins σ Q) X.xe s
  have hr1 : Room n X.A.in1 := Room.in1 hr
  refine rc_neO (C := C) (f := g) (tb := tb) (by have := hr.un; omega) I.kIn J O (ty_looks I ry ty) hn ?_
  refine wpAny_mono (wpAny_call (SlX.run_at (us := [.ref a, u]) (ws := [.ref a, y]) F hr1 I.env0.in1 hx I (.cons rfl (.cons ry .nil)) q)) (fun w s' z => ?_) fun _ _ x => x
  obtain ⟨z', H', I', rz, r, ez, qz⟩ := z
  subst ez
  cases (show w = Value.bool r from rz)
  exact ⟨r, rfl, .bl (!r), H', I', rfl, qz⟩
end
end Rs
/-! A built-in value == an instance with an own __eq__; such an instance in a tuple. -/
namespace Rs
open PySem PySem.Spec PyProof.Rows PySem.SeqAt L2 SeqRoads2 MeetsSeq MeetsSeq2 MeetsSeq3
open AutoSeq1 (wpAny_loadPart')
section
variable {prog : Program} {w : World} {A : Around} {E : Value → Shared → Prop} {s : Shared} {K : PySem.W.Frag} {x C f : Addr} {ox : Obj} {od : Option Obj}
theorem rc_eqR {T id : String} {u : Value} {Q : Value → Shared → Prop} (hu : A.units < cLine) (X : K.In s.heap) (I : PySem.W.InstAt s.heap x ox C od) (O : OwnQ K C f) (hT : s.TypeIs u T) (S : Slot T "__eq__" id)
    (hm : PySem.W.mroIn K C (.type T) = some false) (decl : wpAny (model prog w) A (call (.builtin id) [u, .ref x]) (fun v s' => v = .notImplemented ∧ s' = s) E s)
    (h : wpAny (model prog w) A (call (.ref f) [.ref x, u]) (PySem.W.CmpBack Q) E s) : wpAny (model prog w) A (richCompare .Eq u (.ref x)) Q E s := by
  have one : wpAny (model prog w) A (tryCompare u "__eq__" (.ref x)) (fun r s' => r = none ∧ s' = s) E s :=
    wpAny_tryCompare_declines hT S (wpAny_mono decl (fun v s' z => ⟨z.1, rfl, z.2⟩) fun _ _ e => e)
  have two : wpAny (model prog w) A (tryCompare (.ref x) "__eq__" u) (fun r s' => ∃ v, r = some v ∧ Q v s') E s := by
    unfold tryCompare
    refine wpAny_bind (PySem.W.ifBound_K X I O.eq O.fn (wpAny_mono h (fun v s' hv => ?_) fun _ _ e => e))
    cases v <;> first | exact hv.elim | exact wpAny_pure ⟨_, rfl, hv⟩
  simp only [richCompare, cmpInfo_Eq, hT.oneThing_none]
  refine wpAny_holding (wpAny_bind (wpAny_cRoomFor hu ?_))
  refine wpAny_bind (wpAny_typeOf hT ?_)
  refine wpAny_bind (I.type.here ?_)
  split
  · refine wpAny_bind ((PySem.W.looks_subIn X (t := .ref C) (base := .type T) hm).here ?_)
    simp only [Bool.false_eq_true, if_false, Bool.not_false, if_true]
    refine wpAny_bind (m := tryCompare u _ (.ref x)) (wpAny_mono one (fun r s1 z => ?_) fun _ _ e => e)
    obtain ⟨z1, z2⟩ := z
    subst z1
    subst z2
    refine wpAny_bind (m := tryCompare (.ref x) _ u) (wpAny_mono two (fun r s2 z => ?_) fun _ _ e => e)
    obtain ⟨v, rfl, hq⟩ := z
    exact wpAny_pure hq
  · rename_i q
    exact absurd (by simp) q
theorem str_eq_ins (a : Str) (t : Tok) (x C dx : Addr) : Meets (Builtin.«str.__eq__» ⟨[.str a t, .ref x], []⟩) (fun _ R s => s.heap.get? x = some (PySem.W.instObj C dx) ∧ R (.ok (.ret .notImplemented)) s) :=
  .of_wp fun prog w A R s h => by
    obtain ⟨hp, g, d, tk, os⟩ := s; obtain ⟨hl, h⟩ := h
    unfold PySem.W.instObj at hl
    wp_walk using wpAny_loadPart' hl
    exact ⟨_, rfl, h⟩
theorem wpAny_sub' {M : Model} {A : Around} {E : Value → Shared → Prop} {h : Heap} {g : Array GenState} {d : Drawn} {t : Nat} {os : OsState} {a b : Value} {r : Bool} {Q : Bool → Shared → Prop}
    (x : PySem.W.Looks M h (isSubtype a b) r) (hq : Q r ⟨h, g, d, t, os⟩) : wpAny M A (isSubtype a b) Q E ⟨h, g, d, t, os⟩ := PySem.W.Looks.here (s := ⟨h, g, d, t, os⟩) x hq
theorem tuple_eq_ins (l x C dx : Addr) (hm : PySem.W.mroIn K C (.type "tuple") = some false) :
    Meets (Builtin.«tuple.__eq__» ⟨[.ref l, .ref x], []⟩) (fun _ R s => K.In s.heap ∧ s.heap.get? x = some (PySem.W.instObj C dx) ∧ R (.ok (.ret .notImplemented)) s) :=
  .of_wp fun prog w A R s h => by
    obtain ⟨hp, g, d, tk, os⟩ := s; obtain ⟨X, hl, h⟩ := h
    unfold PySem.W.instObj at hl
    have L : PySem.W.Looks (model prog w) hp (isSubtype (.ref C) (.type "tuple")) false := PySem.W.looks_subIn X hm
    wp_walk using wpAny_loadPart' hl, wpAny_sub' L
    exact ⟨_, rfl, h⟩
theorem list_eq_ins (l x C dx : Addr) (hm : PySem.W.mroIn K C (.type "list") = some false) :
    Meets (Builtin.«list.__eq__» ⟨[.ref l, .ref x], []⟩) (fun _ R s => K.In s.heap ∧ s.heap.get? x = some (PySem.W.instObj C dx) ∧ R (.ok (.ret .notImplemented)) s) :=
  .of_wp fun prog w A R s h => by
    obtain ⟨hp, g, d, tk, os⟩ := s; obtain ⟨X, hl, h⟩ := h
    unfold PySem.W.instObj at hl
    have L : PySem.W.Looks (model prog w) hp (isSubtype (.ref C) (.type "list")) false := PySem.W.looks_subIn X hm
    wp_walk using wpAny_loadPart' hl, wpAny_sub' L
    exact ⟨_, rfl, h⟩
theorem int_eq_ins (i : Int) (t : Tok) (x C dx : Addr) : Meets (Builtin.«int.__eq__» ⟨[.int i t, .ref x], []⟩) (fun _ R s => s.heap.get? x = some (PySem.W.instObj C dx) ∧ R (.ok (.ret .notImplemented)) s) :=
  .of_wp fun prog w A R s h => by
    obtain ⟨hp, g, d, tk, os⟩ := s; obtain ⟨hl, h⟩ := h
    unfold PySem.W.instObj at hl
    wp_walk using wpAny_loadPart' hl
    exact ⟨_, rfl, h⟩
/-- u in a builtin's loop against an instance -/
theorem eqBool_ins {u : Value} {Q : Bool → Shared → Prop} (hne : (u == Value.ref x) = false) (h : wpAny (model prog w) A (richCompare .Eq u (.ref x)) (fun v s' => ∃ r, v = .bool r ∧ Q r s') E s) : wpAny (model prog w) A (eqBool u (.ref x)) Q E s := by
  unfold eqBool
  refine wpAny_holding ?_
  refine wpAny_ite_split (fun hab => by rw [hne] at hab; cases hab) (fun _ => ?_)
  cases u <;> (
    refine wpAny_bind (wpAny_mono h (fun v s' hv => ?_) fun _ _ x => x)
    obtain ⟨r, rfl, q⟩ := hv
    exact wpAny_truthy_bool q)
theorem tuple_inG {R : Result → Shared → Prop} (l : Addr) (items : Array Value) (n : Nat) (dd : Option Addr) (sl : Array (Option Value)) (y : Value) (I : Shared → Prop)
    (turn : ∀ z, z ∈ items → ∀ s, I s → wpAny (model prog w) A.in1 (eqBool z y) (fun r s' => r = false ∧ I s') (fun e s' => R (.error e) s') s)
    (fin : ∀ s, I s → R (.ok (.ret (.bool false))) s) (hl : s.heap.get? l = some { cls := .type "tuple", dict := dd, data := .seq items n, slots := sl }) (h : I s) :
    wpAny (model prog w) A.in1 (Builtin.«tuple.__contains__» ⟨[.ref l, y], []⟩) (GQ.FinOf prog w A R) (fun e s' => R (.error e) s') s := by
  obtain ⟨hp, g, d, tk, os⟩ := s
  wp_walk using wpAny_loadPart' hl, wpAny_forIn_array _ (fun rest b s' => b.1 = none ∧ I s' ∧ (∀ z, z ∈ rest → z ∈ items)) _

  case turn =>
    rintro z rest b s' ⟨hb, hI, hmem⟩
    refine wpAny_bind (wpAny_mono (turn z (hmem z (List.mem_cons_self ..)) s' hI) (fun r s2 q => ?_) fun _ _ x => x)
    obtain ⟨rfl, q2⟩ := q
    wp_walk
    exact ⟨rfl, q2, fun z hz => hmem z (List.mem_cons_of_mem _ hz)⟩
  case fin =>
    rintro ⟨b1, b2⟩ s' ⟨hb, hI, hmem⟩
    simp only at hb
    subst hb
    have hR := fin s' hI
    wp_walk
    exact hR
  case h =>
    exact ⟨rfl, h, fun z hz => by simpa using hz⟩
theorem in_tupG {l : Addr} {items : Array Value} {y : Value} {Q : Value → Shared → Prop} (I : Shared → Prop) (hl : s.heap.IsTuple l items)
    (turn : ∀ z, z ∈ items → ∀ s, I s → wpAny (model prog w) A.in1 (eqBool z y) (fun r s' => r = false ∧ I s') E s) (fin : ∀ s, I s → Q (.bool false) s) (h : I s) :
    wpAny (model prog w) A (compareOp .In y (.ref l)) Q E s := by
  obtain ⟨⟨cls, dd, data, sl⟩, ho, hc, n, hd⟩ := id hl
  simp only at hc hd
  subst hc hd
  show wpAny _ A (do return .bool (← contains (.ref l) y)) Q E s
  refine wpAny_bind (wpAny_contains_slot ⟨_, ho, rfl⟩ F.slot_tuple_contains (wpAny_mono (GQ.call_here F.slot_tuple_contains ⟨_, ho, rfl⟩ F.entry_tuple_contains (F.args_tuple_contains_2 _ _)
    (tuple_inG (R := wants (fun v s' => ∃ b, v = .bool b ∧ Q (.bool b) s') E) l items n dd sl y I turn (fun s' q => ⟨_, rfl, fin s' q⟩) ho h)) (fun v s' hv => ?_) fun _ _ e => e))
  obtain ⟨b, rfl, hq⟩ := hv
  exact wpAny_truthy_bool (wpAny_pure hq)
end
/-- the class at C is no subclass of these -/
structure OwnN (K : PySem.W.Frag) (C : Addr) : Prop where
  no : PySem.W.mroIn K C (.type "NoneType") = some false
  st : PySem.W.mroIn K C (.type "str") = some false
  tu : PySem.W.mroIn K C (.type "tuple") = some false
  li : PySem.W.mroIn K C (.type "list") = some false
  it : PySem.W.mroIn K C (.type "int") = some false
theorem Vals.of_mem : ∀ {xs : List V} {us : List Value}, Vals xs us → ∀ {u : Value}, u ∈ us → ∃ x, x ∈ xs ∧ RelV x u
  | _, _, .nil, _, h => by cases h
  | _, _, .cons r t, u, h => by
    rcases List.mem_cons.mp h with e | h
    · subst e
      exact ⟨_, List.mem_cons_self, r⟩
    · obtain ⟨x, hx, k⟩ := Vals.of_mem t h
      exact ⟨x, List.mem_cons_of_mem _ hx, k⟩
section
variable {X : Cx} {CX : CXT} {pins : List (Addr × Obj)} {σ : L2.St} {H : Hp} {s : Shared} {C g : Addr} {n : Nat} {sp : Sp} {E : XK}
theorem ins_obj {a dx : Addr} {fs : List (Str × V)} (I : Inv X pins σ H s) (h : H a = some (.ins C dx fs)) : ∃ od, PySem.W.InstAt s.heap a (PySem.W.instObj C dx) C od := by
  obtain ⟨mA, J, _⟩ := ins_get I.hok h
  obtain ⟨od, J, _⟩ := J.look
  exact ⟨_, J⟩
/-- kinds of values that an instance is compared with from the left -/
def OthV (K : PySem.W.Frag) (H : Hp) (z : V) : Prop := z = .non ∨ (∃ i, z = .str i) ∨ (∃ i, z = .int i) ∨ ∃ p ys, z = .ref p ∧ SqT K H p ys
def falseO (sp : Sp) (E : XK) (a : Addr) (z : V) (H : Hp) : Prop := sp [.ref a, z] H (fun v H' => v = .bl false ∧ H' = H) E
theorem rc_oth {A : Around} {a dx : Addr} {fs : List (Str × V)} {z : V} {u : Value} (O : OwnQ X.K C g) (N : OwnN X.K C) (FG : FnR X.prog X.w X.K X.mg X.base CX n g sp) (hr : Room n A) (e0 : Env0 X.prog X.w X.K X.mg X.base A X.stack s H) (hx : Passes CX X E)
    (I : Inv X pins σ H s) (ha : H a = some (.ins C dx fs)) (rz : RelV z u) (oz : OthV X.K H z) (q : falseO sp E a z H) :
    wpAny (model X.prog X.w) A (eqBool u (.ref a)) (fun r s' => r = false ∧ Inv X pins σ H s') X.xe s := by
  obtain ⟨od, J⟩ := ins_obj I ha
  have run : wpAny (model X.prog X.w) A (call (.ref g) [.ref a, u]) (PySem.W.CmpBack (fun v s' => ∃ r, v = .bool r ∧ r = false ∧ Inv X pins σ H s')) X.xe s := by
    refine wpAny_mono (wpAny_call (SlX.run_at (us := [.ref a, u]) (ws := [.ref a, z]) FG hr e0 hx I (.cons rfl (.cons rz .nil)) q)) (fun w s' y => ?_) fun _ _ x => x
    obtain ⟨z', H', I', ry, e1, e2⟩ := y
    subst e1
    subst e2
    cases (show w = Value.bool false from ry)
    exact ⟨false, rfl, rfl, I'⟩
  rcases oz with rfl | ⟨i, rfl⟩ | ⟨i, rfl⟩ | ⟨p, ys, rfl, hp⟩
  · cases (show u = Value.none from rz)
    exact eqBool_ins rfl (rc_eqR hr.units0 I.kIn J O (show s.TypeIs .none "NoneType" from rfl) F.slot_NoneType_eq N.no (call_gives F.slot_NoneType_eq rfl F.entry_NoneType_eq (F.args_NoneType_eq_2 _ _) (NoneType___eq___none_ref_0 a) ⟨rfl, rfl⟩) run)
  · obtain ⟨t, rfl⟩ := (show ∃ t, u = Value.str i t from rz)
    exact eqBool_ins rfl (rc_eqR hr.units0 I.kIn J O (show s.TypeIs (.str i t) "str" from rfl) F.slot_str_eq N.st (call_meets F.slot_str_eq rfl F.entry_str_eq (F.args_str_eq_2 _ _) (str_eq_ins i t a C dx) ⟨J.at_, rfl, rfl⟩) run)
  · obtain ⟨t, rfl⟩ := (show ∃ t, u = Value.int i t from rz)
    exact eqBool_ins rfl (rc_eqR hr.units0 I.kIn J O (show s.TypeIs (.int i t) "int" from rfl) F.slot_int_eq N.it (call_meets F.slot_int_eq rfl F.entry_int_eq (F.args_int_eq_2 _ _) (int_eq_ins i t a C dx) ⟨J.at_, rfl, rfl⟩) run)
  · cases (show u = Value.ref p from rz)
    obtain ⟨its, rv, ⟨o, ho, hc, _⟩, _⟩ := I.tuple hp
    have hne : (Value.ref p == Value.ref a) = false := by
      have : p ≠ a := by
        rintro rfl
        have e := J.at_
        rw [ho] at e
        cases e
        cases hc
      simp [this]
    exact eqBool_ins hne (rc_eqR hr.units0 I.kIn J O (show s.TypeIs (.ref p) "tuple" from ⟨_, ho, hc⟩) F.slot_tuple_eq N.tu (call_meets F.slot_tuple_eq ⟨_, ho, hc⟩ F.entry_tuple_eq (F.args_tuple_eq_2 _ _) (tuple_eq_ins p a C dx N.tu) ⟨I.kIn, J.at_, rfl, rfl⟩) run)
/-- x in a tuple of other things -/
def rInO (K : PySem.W.Frag) (C : Addr) (sp : Sp) (E : XK) : R2 := fun x y H Q => ∃ a dx fs t xs, x = .ref a ∧ H a = some (.ins C dx fs) ∧ y = .ref t ∧ SqT K H t xs ∧ (∀ z ∈ xs, OthV K H z ∧ falseO sp E a z H) ∧ Q (.bl false) H
theorem op_inO (O : OwnQ X.K C g) (N : OwnN X.K C) (F : FnR X.prog X.w X.K X.mg X.base CX n g sp) (hr : Room (n + 2) X.A) (hx : Passes CX X E) : OpR X (compareOp .In) (rInO X.K C sp E) := by
  intro pins s σ H x y v u Q I rx ry h
  obtain ⟨a, dx, fs, t, xs, rfl, ha, rfl, ht, hz, q⟩ := h
  cases (show v = Value.ref a from rx)
  cases (show u = Value.ref t from ry)
  obtain ⟨its, rv, e, _⟩ := I.tuple ht
  have hr1 : Room n X.A.in1 := Room.in1 (hr.mono (by omega))
  refine in_tupG (fun s' => Inv X pins σ H s') e (fun z hm s' I' => ?_) (fun s' I' => ⟨.bl false, H, I', rfl, q⟩) I
  obtain ⟨zz, hzz, rz⟩ := Vals.of_mem rv (by simpa using hm)
  exact rc_oth O N F hr1 I'.env0.in1 hx I' ha rz (hz zz hzz).1 (hz zz hzz).2
end
end Rs
/-! What a class with its own __eq__ is to isinstance; any value in a tuple of texts. -/
namespace Rs
open PySem PySem.Spec PyProof.Rows L2
theorem fnR {P : Program} {w : World} {K : PySem.W.Frag} {mg : Str → Option Value} {base : Heap} {CX : CXT} {k : Nat} {f : Addr} {fd : FuncData} {ps : List Str} {sp : Sp} (F : FnOk P w K mg base CX k f fd ps sp) (hb : Binds K fd ps []) : FnR P w K mg base CX k f sp :=
  (F.raw hb .nil).imp fun vs H Q E h => by
    show sp (vs ++ []) H Q E
    rw [List.append_nil]
    exact h
structure OwnI (K : PySem.W.Frag) (C : Addr) : Prop where
  cl : (PySem.W.clsIn K C).isSome = true
  tp : PySem.W.typeIn K (.ref C) = some (.type "type")
  ca : PySem.W.findIn K (.ref C) "__class__" = some (some (.builtin "object.__class__"))
  sp : PySem.W.specialIn K (.builtin "object.__class__") "__get__" = some (some (.builtin "getset_descriptor.__get__"))
  tk : PySem.W.takesIn K (.builtin "object.__class__") = some true
  mo : PySem.W.mroIn K C (.type "object") = some true
theorem OwnI.ty {K : PySem.W.Frag} {C a dx : Addr} {fs : List (Str × V)} {H : Hp} (h : OwnI K C) (c : Cls K C) (e : H a = some (.ins C dx fs)) : TyX K H (.ref a) (.ref C) := .base (.ins e c h.ca h.sp h.tk h.mo)
theorem kit_self {K : PySem.W.Frag} {C : Addr} : PySem.W.kitOne K (.ref C) (.ref C) = some true := by simp [PySem.W.kitOne]
theorem OwnI.no {K : PySem.W.Frag} {C : Addr} {T : String} {ns : List String} (h : OwnI K C) (e : fastBuiltinMro T = some (ns.map Value.type)) : PySem.W.kitOne K (.type T) (.ref C) = some false := by
  have h1 : PySem.W.subIn K (.type T) (.ref C) = some false := by
    show (fastBuiltinMro T).map (·.contains (.ref C)) = some false
    rw [e]
    simp
  unfold PySem.W.kitOne PySem.W.kitCls
  simp [h.cl, h.tp, h1]
/-- the built-in kinds that stand beside own instances -/
inductive BT : String → Prop
  | non : BT "NoneType"
  | bl : BT "bool"
  | int : BT "int"
  | str : BT "str"
  | lst : BT "list"
  | tup : BT "tuple"
theorem BT.nf {K : PySem.W.Frag} {C : Addr} {T : String} (h : BT T) : PySem.W.notFirst K C (.type T) = true := by
  cases h
  · exact nf_none
  · exact nf_bool
  · exact nf_int
  · exact nf_str
  · exact nf_list
  · exact nf_tuple
theorem OwnI.bt {K : PySem.W.Frag} {C : Addr} {T : String} (h : OwnI K C) (b : BT T) : PySem.W.kitOne K (.type T) (.ref C) = some false := by
  cases b
  · exact h.no (ns := ["NoneType", "object"]) (by decide +kernel)
  · exact h.no (ns := ["bool", "int", "object"]) (by decide +kernel)
  · exact h.no (ns := ["int", "object"]) (by decide +kernel)
  · exact h.no (ns := ["str", "object"]) (by decide +kernel)
  · exact h.no (ns := ["list", "object"]) (by decide +kernel)
  · exact h.no (ns := ["tuple", "object"]) (by decide +kernel)
theorem Sh.bt {K : PySem.W.Frag} {b : Addr} {H : Hp} {v : V} (h : Sh b H v) : ∃ T, TyX K H v (.type T) ∧ BT T := by
  cases v with
  | non => exact ⟨_, .base .non, .non⟩
  | bl x => exact ⟨_, .base (.bl x), .bl⟩
  | int x => exact ⟨_, .base (.int x), .int⟩
  | str x => exact ⟨_, .base (.str x), .str⟩
  | ref a =>
    obtain ⟨ne, ⟨xs, e⟩ | ⟨xs, e⟩⟩ := h
    · exact ⟨_, .base (.lst e), .lst⟩
    · exact ⟨_, .base (.tup e), .tup⟩
  | byt _ => exact h.elim
  | flt _ => exact h.elim
  | ty _ => exact h.elim
/-- whether a value is one of some texts -/
def isOne (ys : List Str) : V → Bool
  | .str x => ys.any (· == x)
  | _ => false
def eqText (v : V) : Value → Bool
  | .str c _ => (match v with
    | .str x => c == x
    | _ => false)
  | _ => false
theorem any_text {v : V} : ∀ {ys : List Str} {us : List Value}, Vals (ys.map V.str) us → us.any (eqText v) = isOne ys v
  | [], _, .nil => by cases v <;> rfl
  | y :: ys, _, .cons r t => by
    obtain ⟨k, rfl⟩ := r
    have ih := any_text (v := v) t
    rw [List.any_cons, ih]
    cases v <;> simp [eqText, isOne]
section
variable {X : Cx} {pins : List (Addr × Obj)} {σ : L2.St} {H : Hp} {s : Shared}
theorem text_eqAt {A : Around} {b : Addr} {v : V} {u : Value} (hu : A.units < cLine) (I : Inv X pins σ H s) (h : Sh b H v) (rv : RelV v u) (y : Str) (t : Tok) : SeqAt.EqAt A s (.str y t) u (eqText v (.str y t)) := by
  cases v with
  | non => cases (show u = Value.none from rv); exact SeqAt.EqAt.str_none y t
  | bl x => cases (show u = Value.bool x from rv); exact SeqAt.EqAt.str_bool y t x
  | int i => obtain ⟨k, rfl⟩ := (show ∃ k, u = Value.int i k from rv); exact SeqAt.EqAt.str_int y t i k
  | str x => obtain ⟨k, rfl⟩ := (show ∃ k, u = Value.str x k from rv); exact SeqAt.EqAt.str_str y t x k
  | ref a =>
    cases (show u = Value.ref a from rv)
    obtain ⟨ne, ⟨xs, e⟩ | ⟨xs, e⟩⟩ := h
    · obtain ⟨its, r, pl, _⟩ := I.list (SqL.of e)
      exact SeqAt.EqAt.str_list y t pl.isList hu
    · obtain ⟨its, r, pl, _⟩ := I.tuple (SqT.of e)
      exact SeqAt.EqAt.str_tuple y t pl hu
  | byt _ => exact h.elim
  | flt _ => exact h.elim
  | ty _ => exact h.elim
/-- x (not) in a tuple of texts -/
def rInSh (K : PySem.W.Frag) (neg : Bool) : R2 := fun x y H Q => ∃ b p ys, y = .ref p ∧ SqT K H p (ys.map V.str) ∧ Sh b H x ∧ Q (.bl (if neg then !isOne ys x else isOne ys x)) H
theorem mem_text {b : Addr} {A : Around} {v : V} {u : Value} (hu : A.units < cLine) (I : Inv X pins σ H s) (h : Sh b H v) (rv : RelV v u) : ∀ {ys : List Str} {us : List Value}, Vals (ys.map V.str) us → ∀ z ∈ us, SeqAt.EqAt A s z u (eqText v z)
  | [], _, .nil, _, hz => by cases hz
  | y :: ys, _, .cons r t, z, hz => by
    obtain ⟨k, rfl⟩ := r
    rcases List.mem_cons.mp hz with e | hz
    · subst e
      exact text_eqAt hu I h rv y k
    · exact mem_text hu I h rv t z hz
theorem op_inSh (hu : X.A.units + 64 < cLine) : OpR X (compareOp .In) (rInSh X.K false) := by
  intro pins s σ H x y v u Q I rx ry h
  obtain ⟨b, p, ys, rfl, hq, hs, q⟩ := h
  cases ry
  obtain ⟨its, rv, pl, _⟩ := I.tuple hq
  have hu1 : X.A.in1.units < cLine := by show X.A.units + 1 < cLine; omega
  refine SeqAt.in_tupleAt (eqText x) pl (fun z hz => mem_text hu1 I hs rx rv z (by simpa using hz)) ⟨.bl _, H, I, rfl, ?_⟩
  rw [show its.toArray.any (eqText x) = its.any (eqText x) by simp, any_text rv]
  exact q
theorem op_notInSh (hu : X.A.units + 64 < cLine) : OpR X (compareOp .NotIn) (rInSh X.K true) := by
  intro pins s σ H x y v u Q I rx ry h
  obtain ⟨b, p, ys, rfl, hq, hs, q⟩ := h
  cases ry
  obtain ⟨its, rv, pl, _⟩ := I.tuple hq
  have hu1 : X.A.in1.units < cLine := by show X.A.units + 1 < cLine; omega
  refine SeqAt.notIn_tupleAt (eqText x) pl (fun z hz => mem_text hu1 I hs rx rv z (by simpa using hz)) ⟨.bl _, H, I, rfl, ?_⟩
  rw [show its.toArray.any (eqText x) = its.any (eqText x) by simp, any_text rv]
  exact q
end
end Rs
/-! Dicts of ints as sets; comprehensions over anything walked; a bool > an int; values by two levels of shape. -/
namespace Rs
open PySem PySem.Spec PyProof.Rows L2
/-! ### a bool > an int -/
section
variable {prog : Program} {w : World} {A : Around} {E : Value → Shared → Prop} {s : Shared}
theorem gives_gt_bool (c : Bool) (j : Int) (u : Tok) : Gives (Builtin.«int.__gt__» ⟨[.bool c, .int j u], []⟩) (.val (Value.bool (decide (j < (if c = true then (1 : Int) else 0))))) :=
  .of_wp fun M A E s Q h => by
    obtain ⟨hp, g, d, tk, os⟩ := s
    wp_walk
    exact ⟨_, rfl, h⟩
theorem gt_bool_int {c : Bool} {j : Int} {u : Tok} {Q : Value → Shared → Prop} (h : Q (.bool (decide (j < (if c = true then (1 : Int) else 0)))) s) : wpAny (model prog w) A (compareOp .Gt (.bool c) (.int j u)) Q E s := by
  show wpAny _ _ (richCompare .Gt (.bool c) (.int j u)) Q E s
  exact wpAny_richCompare_left (op := .Gt) (Ta := "bool") (Tb := "int") rfl (typeIs_int s j u) (by decide) F.sub_int_bool F.slot_bool_gt
    (call_gives F.slot_bool_gt rfl F.entry_int_gt (F.args_int_gt_2 _ _) (gives_gt_bool c j u) ⟨nofun, h⟩)
end
/-- an int or a bool > an int -/
def gtI (v : V) (j : Int) : Bool := match v with
  | .int i => decide (j < i)
  | .bl c => decide (j < (if c = true then (1 : Int) else 0))
  | _ => false
def rGtI : R2 := fun x y H Q => ∃ j, y = .int j ∧ ((∃ i, x = .int i) ∨ ∃ c, x = .bl c) ∧ Q (.bl (gtI x j)) H
theorem op_gtI {X : Cx} : OpR X (compareOp .Gt) rGtI := by
  intro pins s σ H x y v u Q I rx ry h
  obtain ⟨j, rfl, ⟨i, rfl⟩ | ⟨c, rfl⟩, q⟩ := h
  · exact op_gt pins s σ H _ _ v u Q I rx ry ⟨i, j, rfl, rfl, q⟩
  · obtain ⟨t, rfl⟩ := ry
    cases (show v = Value.bool c from rx)
    exact gt_bool_int ⟨.bl _, H, I, rfl, q⟩
/-! ### y in a dict -/
def rInDict : R2 := fun y x H Q => ∃ a o, x = .ref a ∧ DGet H a y o ∧ Q (.bl o.isSome) H
theorem op_inDict {X : Cx} (hu : X.A.units + 1 < cLine) : OpR X (compareOp .In) rInDict := by
  intro pins s σ H y x v u Q I ry rx h
  obtain ⟨a, o, rfl, g, q⟩ := h
  cases (show u = Value.ref a from rx)
  exact d_in hu I g ry fun s3 I3 => ⟨.bl o.isSome, H, I3, rfl, q⟩
/-- the int keys of a dict are just these -/
def KeysI (kvs : List (Key × V)) (ns : List Int) : Prop := (∀ i : Int, (valV kvs (.inl i)).isSome = decide (i ∈ ns)) ∧ kvs.length ≤ ns.length
theorem KeysI.nil : KeysI [] [] := ⟨fun i => by simp [valV], Nat.le_refl _⟩
theorem KeysI.snoc {kvs : List (Key × V)} {ns : List Int} (h : KeysI kvs ns) (i : Int) (v : V) : KeysI (putK kvs (.inl i) v) (ns ++ [i]) := by
  refine ⟨fun j => ?_, ?_⟩
  · rw [valV_put]
    by_cases e : j = i
    · subst e
      simp
    · have e' : ¬ ((Sum.inl j : Key) = .inl i) := fun q => e (Sum.inl.inj q)
      rw [if_neg e', h.1 j]
      simp [e]
  · have l1 := length_putK kvs (Sum.inl i : Key) v
    have l2 := h.2
    rw [List.length_append]
    show _ ≤ ns.length + 1
    omega
theorem KeysI.get {kvs : List (Key × V)} {ns : List Int} (h : KeysI kvs ns) {H : Hp} {a : Addr} (e : H a = some (.dK kvs)) (i : Int) : ∃ o, DGet H a (.int i) o ∧ o.isSome = decide (i ∈ ns) :=
  ⟨_, DGet.k (k := (.inl i : Key)) e, h.1 i⟩
/-- a dict of ints stands at D -/
def SetI (H : Hp) (D : Addr) (ns : List Int) : Prop := ∃ kvs, H D = some (.dK kvs) ∧ KeysI kvs ns
theorem SetI.get {H : Hp} {D : Addr} {ns : List Int} (h : SetI H D ns) (i : Int) : ∃ o, DGet H D (.int i) o ∧ o.isSome = decide (i ∈ ns) := by
  obtain ⟨kvs, e, k⟩ := h
  exact k.get e i
theorem SetI.same {H H' : Hp} {D : Addr} {ns : List Int} (h : SetI H D ns) (s : Same H H') : SetI H' D ns := by
  obtain ⟨kvs, e, k⟩ := h
  exact ⟨kvs, s _ _ e, k⟩
/-- a dict comprehension over anything walked -/
theorem dc_it {J : It} {n : Nat} {G : Hp → Prop} {Y : Nat → Hp → V → Hp → Prop} (wk : Walk J n G Y) {g : TG} {tt : TT} {tk tv : TE} {vs : List Nat} {σ : L2.St} {H0 : Hp} {D : Addr} {Qe : Hp → Prop} (R : Nat → Hp → Prop) (start : R 0 (upd H0 D (.dK [])))
    (stay : ∀ j H, j ≤ n → R j H → G H)
    (turn : ∀ j x H H', j < n → R j H → Y j H x H' → g x (wipe σ vs) H' fun σ1 H1 => wipe σ1 vs = wipe σ vs ∧ tt σ1 H1 fun c H2 =>
      if c = true then tk σ1 H2 fun y H3 => tv σ1 H3 fun z H4 => ∃ ks k, y = kV k ∧ H4 D = some (.dK ks) ∧ ks.length < sizeLine ∧ R (j + 1) (upd H4 D (.dK (putK ks k z))) else R (j + 1) H2)
    (fin : ∀ H, R n H → Qe H) :
    ∃ W : Nat → Nat → Hp → Prop, (∃ m, W 0 m (upd H0 D (.dK []))) ∧ ∀ j m H, W j m H → (J.stop j H ∧ Qe H) ∨
      (J.go j H ∧ ∃ N : Hp → Prop, (∀ H', N H' → ∃ m', m' < m ∧ W (j + 1) m' H') ∧ ∀ x H', J.yld j H x H' → g x (wipe σ vs) H' fun σ1 H1 => wipe σ1 vs = wipe σ vs ∧ tt σ1 H1 fun c H2 =>
        if c = true then tk σ1 H2 fun y H3 => tv σ1 H3 fun z H4 => ∃ ks k, y = kV k ∧ H4 D = some (.dK ks) ∧ ks.length < sizeLine ∧ N (upd H4 D (.dK (putK ks k z))) else N H2) := by
  refine ⟨fun j m H => m + j = n ∧ R j H, ⟨n, rfl, start⟩, fun j m H hw => ?_⟩
  obtain ⟨em, hR⟩ := hw
  have gH := stay j H (by omega) hR
  cases m with
  | zero =>
    obtain rfl : j = n := by omega
    exact .inl ⟨wk.stops H gH, fin H hR⟩
  | succ m =>
    have lt : j < n := by omega
    refine .inr ⟨wk.goes j H lt gH, R (j + 1), fun H' hN => ⟨m, Nat.lt_succ_self m, by omega, hN⟩, fun x H' hy => ?_⟩
    exact turn j x H H' lt hR (wk.yields j H x H' lt gH hy)
/-! ### more of what stays -/
theorem But.free {b p : Addr} {H H' : Hp} (k : But b H H') (ne : p ≠ b) (h : H' p = none) : H p = none := by
  cases e : H p with
  | none => rfl
  | some o =>
    have := k p o ne e
    rw [h] at this
    cases this
/-- values told by their own shape and that of their things -/
def Tw (b : Addr) (H : Hp) : V → Prop
  | .ref a => a ≠ b ∧ ∃ xs, (H a = some (.lst xs) ∨ H a = some (.tup xs)) ∧ xs.length ≤ 100 ∧ ∀ x ∈ xs, Sh b H x
  | v => Sh b H v
theorem Tw.sh {b : Addr} {H : Hp} {v : V} (h : Tw b H v) : Sh b H v := by
  cases v with
  | ref a =>
    obtain ⟨n, xs, e | e, _⟩ := h
    · exact ⟨n, .inl ⟨xs, e⟩⟩
    · exact ⟨n, .inr ⟨xs, e⟩⟩
  | _ => exact h
theorem Tw.but {b : Addr} {H H' : Hp} {v : V} (h : Tw b H v) (k : But b H H') : Tw b H' v := by
  cases v with
  | ref a =>
    obtain ⟨n, xs, e, l, q⟩ := h
    exact ⟨n, xs, e.imp (k _ _ n) (k _ _ n), l, fun x hx => (q x hx).but k⟩
  | _ => exact h
theorem Tw.set {b t : Addr} {H : Hp} {v : V} {xs ys : List V} (h : Tw b H v) (e : H t = some (.lst xs)) (ne : v ≠ .ref t) : Tw b (upd H t (.lst ys)) v := by
  cases v with
  | ref a =>
    obtain ⟨n, zs, f, l, q⟩ := h
    have na : a ≠ t := fun z => ne (by rw [z])
    exact ⟨n, zs, by rw [upd_ne na]; exact f, l, fun x hx => (q x hx).set e⟩
  | _ => exact h
/-- a value that is no older object -/
def NewV (H : Hp) (v : V) : Prop := ∀ a, v = .ref a → H a = none
theorem NewV.ne {H : Hp} {v : V} {t : Addr} {o : HO} (h : NewV H v) (e : H t = some o) : v ≠ .ref t := fun z => by
  have := h t z
  rw [e] at this
  cases this
theorem NewV.but {b : Addr} {H H' : Hp} {v : V} (h : NewV H' v) (k : But b H H') (s : Sh b H' v) : NewV H v := fun a e => by
  subst e
  exact k.free s.1 (h a rfl)
/-! ### the things of a list or a tuple -/
def seqV (H : Hp) : V → Option (List V)
  | .ref a => match H a with
    | some (.lst xs) => some xs
    | some (.tup xs) => some xs
    | _ => none
  | _ => none
theorem seqV_lst {H : Hp} {a : Addr} {xs : List V} (h : H a = some (.lst xs)) : seqV H (.ref a) = some xs := by
  show (match H a with
    | some (.lst xs) => some xs
    | some (.tup xs) => some xs
    | _ => none) = _
  rw [h]
theorem seqV_tup {H : Hp} {a : Addr} {xs : List V} (h : H a = some (.tup xs)) : seqV H (.ref a) = some xs := by
  show (match H a with
    | some (.lst xs) => some xs
    | some (.tup xs) => some xs
    | _ => none) = _
  rw [h]
theorem seqV_tw {b : Addr} {H H' : Hp} {v : V} (h : Tw b H v) (k : But b H H') : seqV H' v = seqV H v := by
  cases v with
  | ref a =>
    obtain ⟨n, xs, e | e, _⟩ := h
    · rw [seqV_lst e, seqV_lst (k _ _ n e)]
    · rw [seqV_tup e, seqV_tup (k _ _ n e)]
  | _ => rfl
def inB (lo hi : Int) : V → Bool
  | .int i => decide (lo ≤ i) && decide (i < hi)
  | _ => false
/-- whether a value is a sequence of integers between -/
def btw (H : Hp) (lo hi : Int) (v : V) : Bool := match seqV H v with
  | some xs => xs.all (inB lo hi)
  | none => false
theorem btw_seq {H : Hp} {lo hi : Int} {v : V} {xs : List V} (h : seqV H v = some xs) : btw H lo hi v = xs.all (inB lo hi) := by
  unfold btw
  rw [h]
theorem btw_none {H : Hp} {lo hi : Int} {v : V} (h : seqV H v = none) : btw H lo hi v = false := by
  unfold btw
  rw [h]
theorem btw_tw {b : Addr} {H H' : Hp} {v : V} {lo hi : Int} (h : Tw b H v) (k : But b H H') : btw H' lo hi v = btw H lo hi v := by
  unfold btw
  rw [seqV_tw h k]
theorem all_inB {lo hi : Int} : ∀ {xs : List V}, xs.all (inB lo hi) = true → ∃ ns : List Int, xs = ns.map V.int ∧ ∀ n ∈ ns, lo ≤ n ∧ n < hi
  | [], _ => ⟨[], rfl, fun n h => nomatch h⟩
  | x :: xs, h => by
    rw [List.all_cons, Bool.and_eq_true] at h
    obtain ⟨ns, rfl, q⟩ := all_inB h.2
    cases x with
    | int i =>
      have h1 := h.1
      simp only [inB, Bool.and_eq_true, decide_eq_true_eq] at h1
      exact ⟨i :: ns, rfl, fun n hn => by
        rcases List.mem_cons.mp hn with e | e
        · subst e; exact h1
        · exact q n e⟩
    | _ => exact absurd h.1 (by simp [inB])
/-! ### n = {k: v for ..}, n a local name that no inner block keeps -/
theorem sw_dc {kx vx : Expr} {gs : List Comprehension} {sc : Scope} {p q : Pos} {n : Str} {ln : Nat} {ev : Env} (isf : ev.scope.kind = .function) (isl : ev.scope.names.lookup n = some .local) (same : (q.line == p.line) = true)
    (out : (sc.names.any fun (m, k) => m == n && (k == .local || k == .cell)) = false) : swapsWith (.DictComp kx vx gs sc p) (some (.Name n q)) ln ev = pure true := by
  have k1 : ev.kindOf n = some .local := isl
  have k2 : ev.blockKind = .function := by
    unfold Env.blockKind
    rw [isf]
    rfl
  unfold swapsWith
  simp only [k2, k1, out, Expr.pos, same]
  rfl
theorem ps_setDc {X : Cx} {i : Nat} {n : Str} {q : Pos} {kx vx tg it : Expr} {ifs : List Expr} {sc : Scope} {own : List (Str × Nat)} {p sp : Pos} {wi : TI} {g : TG} {tt : TT} {tk tv : TE} (calm : X.calm = true) (nd : X.N.Nodup) (hn : X.N[i]? = some n) (isl : X.env.scope.names.lookup n = some .local)
    (sw : swapsWith (.DictComp kx vx [⟨tg, it, ifs, 0⟩] sc p) (some (.Name n q)) sp.line X.env = pure true) (hi : PI X tg it wi) (ok : BlkOk X.N X.env.scope sc own)
    (r1 : ∀ (u : Shared) (H : Hp) (C : Addr) (cl : List (Str × Addr)) (fp : List Addr), PG (X.blk u H sc (compEnvC sc cl C X.env) fp) tg g) (r2 : ∀ (u : Shared) (H : Hp) (C : Addr) (cl : List (Str × Addr)) (fp : List Addr), PTs (X.blk u H sc (compEnvC sc cl C X.env) fp) ifs tt)
    (r3 : ∀ (u : Shared) (H : Hp) (C : Addr) (cl : List (Str × Addr)) (fp : List Addr), PE (X.blk u H sc (compEnvC sc cl C X.env) fp) kx tk) (r4 : ∀ (u : Shared) (H : Hp) (C : Addr) (cl : List (Str × Addr)) (fp : List Addr), PE (X.blk u H sc (compEnvC sc cl C X.env) fp) vx tv)
    (plain : ∀ x, foldedSetIterable it X.env x = pure x := by intro _; rfl) : PS X (.Assign [.Name n q] (.DictComp kx vx [⟨tg, it, ifs, 0⟩] sc p) sp) (tAsg (tDc wi g tt tk tv (own.map (·.2))) (gName i)) := by
  refine ⟨fun pins s σ H D I wish => ?_⟩
  have wish : tDc wi g tt tk tv (own.map (·.2)) σ H (fun x H1 => gName i x σ H1 D.nx) := wish
  rw [exec_Assign_Name_used _ _ _ _ sw]
  refine wpAny_bind (wpAny_standAt (wpAny_bind ?_))
  show wpAny _ X.A (do let _ ← comprehension (.DictComp kx vx [⟨tg, it, ifs, 0⟩] sc p) sc X.env (firstIterPos [⟨tg, it, ifs, 0⟩] p) newDict false (eval it X.env) (some (assign (.Name n q) X.env))) _ _ s
  refine wpAny_bind (thn (dc_core (Qf := fun _ s' => SP X pins D .next s') calm nd I hi ok r1 r2 r3 r4 plain wish fun L C s1 ns H1 I1 got hns fr => ?_) fun _ s1 z => wpAny_pure (wpAny_pure z))
  show wpAny _ _ (assign (.Name n q) X.env (.ref L)) _ _ _
  refine wpAny_assign_Name (store_ok2 (v := V.ref L) I1 nd hn (.inl isl) rfl (fun s2 I2 ⟨c, keep, way⟩ => ?_) (.inr isl))
  obtain ⟨e0, e1, e2, e3, e4, e5⟩ := fr
  have far : C ≠ c := by
    rcases way with z | z
    · rw [z]
      exact e1
    · exact fun e => e4 n c z e.symm
  refine ⟨ns, hns.sameBut keep far, fun h3 keep3 => ?_⟩
  exact ⟨_, H1, I2.turned (t' := s2.toks) (fun b o hb e => (keep3.2 b hb).trans e) e0 e1 e3 e4 e5, got⟩
/-- a list or a tuple, walked -/
def iSeqA (K : PySem.W.Frag) (tl : TE) : TI := fun σ H R => tl σ H fun v H1 => ∃ a, v = .ref a ∧ ((∃ xs, SqL K H1 a xs ∧ R (Itl K a) H1) ∨ (∃ xs, SqT K H1 a xs ∧ R (Itt K a) H1))
theorem pi_seqA {X : Cx} {tg l : Expr} {tl : TE} (hl : PE X l tl) : PI X tg l (iSeqA X.K tl) := by
  refine ⟨fun pins s σ H R I h => thn (hl.run pins s σ H _ I h) fun v u res => ?_⟩
  obtain ⟨x, G, J, rx, a, ex, way⟩ := res
  subst ex
  cases rx
  have new : ∀ c ∈ [u.heap.objs.size], FpOk X pins G c := fun c hc => by
    obtain rfl : c = u.heap.objs.size := by simpa using hc
    exact J.fpOk (Nat.le_refl _) (J.hok.fresh (Nat.le_refl _))
  rcases way with ⟨xs, hq, q⟩ | ⟨xs, hq, q⟩
  · obtain ⟨its, rv, p, _⟩ := J.list hq
    refine wpAny_pyIter_list p.isList ⟨u.heap.objs.size, [u.heap.objs.size], _, _, G, rfl, ?_, turn_list a _, ⟨_, Heap.get?_push_size _ rfl, rfl, rfl⟩, new, q⟩
    exact J.kept (t' := u.toks) fun c r z => Heap.get?_push_of_some _ z
  · obtain ⟨its, rv, p, _⟩ := J.tuple hq
    refine wpAny_pyIter_tuple (show u.heap.IsTuple a its.toArray from p) ⟨u.heap.objs.size, [u.heap.objs.size], _, _, G, rfl, ?_, turn_tuple a _, ⟨_, Heap.get?_push_size _ rfl, rfl, rfl⟩, new, q⟩
    exact J.kept (t' := u.toks) fun c r z => Heap.get?_push_of_some _ z
/-- a list or a tuple of ints -/
def SeqI (K : PySem.W.Frag) (H : Hp) (a : Addr) (ns : List Int) : Prop := SqL K H a (ns.map V.int) ∨ SqT K H a (ns.map V.int)
theorem SeqI.same {K : PySem.W.Frag} {H H' : Hp} {a : Addr} {ns : List Int} (h : SeqI K H a ns) (s : Same H H') : SeqI K H' a ns := h.imp (s.seq ·) (fun h => (Fz.of_same s).sqT h)
theorem take_int {ns : List Int} {i : Nat} {x : V} (h : (ns.map V.int)[i]? = some x) : ∃ n, x = .int n ∧ ns.take (i + 1) = ns.take i ++ [n] := by
  obtain ⟨n, hn, rfl⟩ := map_int_get h
  exact ⟨n, rfl, take_snoc hn⟩
/-- {n: True for n in a} -/
theorem dset {K : PySem.W.Frag} {a : Addr} {ns : List Int} {te : TE} {sl : Nat} {σ : L2.St} {H : Hp} {Q : VK} (hte : ∀ R : VK, R (.ref a) H → te σ H R) (hl : sl < σ.length) (hS : SeqI K H a ns) (hn : ns.length ≤ 1000)
    (k : ∀ D H', H D = none → Same H H' → SetI H' D ns → Q (.ref D) H') : tDc (iSeqA K te) (gName sl) tYes (tVar sl) (tC (.bl true)) [sl] σ H Q := by
  have turn : ∀ (D : Addr), H D = none → ∀ j x Hc H', j < (ns.map V.int).length → (SetI Hc D (ns.take j) ∧ Same H Hc) → YAt (ns.map V.int) j Hc x H' → gName sl x (wipe σ [sl]) H' fun σ1 H1 => wipe σ1 [sl] = wipe σ [sl] ∧ tYes σ1 H1 fun c H2 =>
      if c = true then tVar sl σ1 H2 fun y H3 => tC (.bl true) σ1 H3 fun z H4 => ∃ ks k, y = kV k ∧ H4 D = some (.dK ks) ∧ ks.length < sizeLine ∧ (SetI (upd H4 D (.dK (putK ks k z))) D (ns.take (j + 1)) ∧ Same H (upd H4 D (.dK (putK ks k z)))) else (SetI H2 D (ns.take (j + 1)) ∧ Same H H2) := by
    intro D hD j x Hc H' hj hR hy
    obtain ⟨rfl, hx⟩ := hy
    obtain ⟨n, rfl, tk⟩ := take_int hx
    obtain ⟨⟨kvs, hk, kk⟩, sc⟩ := hR
    refine ⟨by simp [wipe, List.set_set], ?_⟩
    dsimp only [tYes]
    rw [if_pos rfl]
    refine ⟨.int n, by simp [wipe, List.getElem?_set, hl], kvs, .inl n, rfl, hk, ?_, ?_, ?_⟩
    · have := kk.2
      rw [List.length_take] at this
      exact szl (by omega)
    · rw [tk]
      exact ⟨_, upd_same, kk.snoc n _⟩
    · exact same_lst sc hD
  refine hte _ ⟨a, rfl, ?_⟩
  rcases hS with hS | hS
  · refine .inl ⟨_, hS, fun D hD => dc_it walk_list (fun i Hc => SetI Hc D (ns.take i) ∧ Same H Hc) ⟨⟨[], upd_same, KeysI.nil⟩, same_new hD⟩ (fun i Hc _ hR => hR.2.seq hS) (turn D hD) (fun Hc hR => ?_)⟩
    rw [List.length_map, List.take_length] at hR
    exact k D Hc hD hR.2 hR.1
  · refine .inr ⟨_, hS, fun D hD => dc_it walk_tup (fun i Hc => SetI Hc D (ns.take i) ∧ Same H Hc) ⟨⟨[], upd_same, KeysI.nil⟩, same_new hD⟩ (fun i Hc _ hR => (Fz.of_same hR.2).sqT hS) (turn D hD) (fun Hc hR => ?_)⟩
    rw [List.length_map, List.take_length] at hR
    exact k D Hc hD hR.2 hR.1
theorem asg_go {te : TE} {g : V → L2.St → Hp → (L2.St → Hp → Prop) → Prop} {rest : TS} {D : Ends} {σ : L2.St} {H : Hp} (h : te σ H (fun x H1 => g x σ H1 (fun σ2 H2 => rest D σ2 H2))) : tSeq (tAsg te g) rest D σ H := h
/-- [e for n in a], the e of a bool each, nothing written -/
theorem lmap {K : PySem.W.Frag} {a : Addr} {ns : List Int} {te el : TE} {sl : Nat} {σ : L2.St} {H : Hp} {Q : VK} (f : Int → Bool) (hte : ∀ R : VK, R (.ref a) H → te σ H R) (hS : SeqI K H a ns) (hn : ns.length ≤ 1000)
    (helt : ∀ n Hc (R : VK), n ∈ ns → Same H Hc → R (.bl (f n)) Hc → el ((wipe σ [sl]).set sl (some (.int n))) Hc R)
    (k : ∀ D H', H D = none → Same H H' → H' D = some (.lst ((ns.map f).map V.bl)) → Q (.ref D) H') : tLc (iSeqA K te) (gName sl) tYes el [sl] σ H Q := by
  have turn : ∀ (D : Addr), H D = none → ∀ j x Hc H', j < (ns.map V.int).length → (Hc D = some (.lst (((ns.take j).map f).map V.bl)) ∧ Same H Hc) → YAt (ns.map V.int) j Hc x H' → gName sl x (wipe σ [sl]) H' fun σ1 H1 => wipe σ1 [sl] = wipe σ [sl] ∧ tYes σ1 H1 fun c H2 =>
      if c = true then el σ1 H2 fun y H3 => ∃ acc, H3 D = some (.lst acc) ∧ acc.length < sizeLine ∧ (upd H3 D (.lst (acc ++ [y])) D = some (.lst (((ns.take (j + 1)).map f).map V.bl)) ∧ Same H (upd H3 D (.lst (acc ++ [y])))) else (H2 D = some (.lst (((ns.take (j + 1)).map f).map V.bl)) ∧ Same H H2) := by
    intro D hD j x Hc H' hj hR hy
    obtain ⟨rfl, hx⟩ := hy
    obtain ⟨n, rfl, tk⟩ := take_int hx
    obtain ⟨hk, sc⟩ := hR
    refine ⟨by simp [wipe, List.set_set], ?_⟩
    dsimp only [tYes]
    rw [if_pos rfl]
    refine helt n _ _ (List.mem_of_mem_take (i := j + 1) (by rw [tk]; simp)) sc ⟨_, hk, ?_, ?_, ?_⟩
    · rw [List.length_map, List.length_map, List.length_take]
      exact szl (by omega)
    · rw [tk, upd_same, List.map_append, List.map_append]
      rfl
    · exact same_lst sc hD
  refine hte _ ⟨a, rfl, ?_⟩
  rcases hS with hS | hS
  · refine .inl ⟨_, hS, fun D hD => lc_it walk_list (fun i Hc => Hc D = some (.lst (((ns.take i).map f).map V.bl)) ∧ Same H Hc) ⟨upd_same, same_new hD⟩ (fun i Hc _ hR => hR.2.seq hS) (turn D hD) (fun Hc hR => ?_)⟩
    rw [List.length_map, List.take_length] at hR
    exact k D Hc hD hR.2 hR.1
  · refine .inr ⟨_, hS, fun D hD => lc_it walk_tup (fun i Hc => Hc D = some (.lst (((ns.take i).map f).map V.bl)) ∧ Same H Hc) ⟨upd_same, same_new hD⟩ (fun i Hc _ hR => (Fz.of_same hR.2).sqT hS) (turn D hD) (fun Hc hR => ?_)⟩
    rw [List.length_map, List.take_length] at hR
    exact k D Hc hD hR.2 hR.1
theorem b_go {r : List V → Hp → VK → Prop} {te : TE} {σ : L2.St} {H : Hp} {Q : Bool → Hp → Prop} (h : te σ H (fun x H1 => r [x] H1 (fun z H2 => ∃ c, z = .bl c ∧ Q c H2))) : tB (tCB r (tCons te tNil)) σ H Q := h
theorem all_id {ns : List Int} {f : Int → Bool} : (ns.map f).all id = ns.all f := by simp [List.all_map]
/-- a list == [] -/
def rEqNil (K : PySem.W.Frag) : R2 := fun x y H Q => ∃ l b xs, x = .ref l ∧ y = .ref b ∧ SqL K H l xs ∧ SqL K H b [] ∧ Q (.bl xs.isEmpty) H
theorem op_eqNil {X : Cx} (hu : X.A.units + 1 < cLine) : OpR X (compareOp .Eq) (rEqNil X.K) := by
  intro pins s σ H x y v u Q I rx ry h
  obtain ⟨l, b, xs, rfl, rfl, h1, h2, q⟩ := h
  cases (show v = Value.ref l from rx)
  cases (show u = Value.ref b from ry)
  obtain ⟨its, rv, p1, _⟩ := I.list h1
  obtain ⟨its2, rv2, p2, _⟩ := I.list h2
  cases rv2
  have hu0 : X.A.units < cLine := by omega
  show wpAny _ _ (richCompare .Eq (.ref l) (.ref b)) _ _ _
  cases rv with
  | nil => exact SeqAt.RcAt.lists (e := fun _ => true) p1.isList p2.isList rfl hu0 (fun j h1 h2 => absurd h1 (by simp)) _ _ _ _ ⟨.bl _, H, I, rfl, q⟩
  | cons r t => exact SeqAt.RcAt.lists_lengths p1.isList p2.isList (by simp) hu0 _ _ _ _ ⟨.bl _, H, I, rfl, q⟩
/-- [a draw for _ in range(a draw)] -/
theorem ldraw {b : Addr} {targ : TA} {el : TE} {sl : Nat} {σ : L2.St} {H : Hp} {Q : VK} {lo hi : Int} (harg : ∀ R : List V → Hp → Prop, (∀ m H1, 0 ≤ m → m ≤ 100 → Box H1 b → But b H H1 → R [.int m] H1) → targ σ H R)
    (helt : ∀ x Hc (R : VK), Box Hc b → (∀ n H1, lo ≤ n → n < hi → Box H1 b → But b Hc H1 → R (.int n) H1) → el ((wipe σ [sl]).set sl (some x)) Hc R)
    (k : ∀ D (ns : List Int) H', H D = none → D ≠ b → H' D = some (.lst (ns.map V.int)) → ns.length ≤ 100 → (∀ n ∈ ns, lo ≤ n ∧ n < hi) → Box H' b → But b H H' → Q (.ref D) H') : tLc (iRng1 targ) (gName sl) tYes el [sl] σ H Q := by
  refine harg _ fun m H1 m0 m1 B1 k1 => ⟨m, rfl, by omega, by omega, fun D hD => ?_⟩
  have neD : D ≠ b := B1.ne_none hD
  refine lc_range (fun i Hc => ∃ ns : List Int, Hc D = some (.lst (ns.map V.int)) ∧ ns.length = i ∧ (∀ n ∈ ns, lo ≤ n ∧ n < hi) ∧ Box Hc b ∧ But b H1 Hc) ⟨[], upd_same, rfl, (fun n h => nomatch h), B1.same (same_new hD), But.of_same (same_new hD)⟩ (fun i Hc hi hP => ?_) (fun Hc hP => ?_)
  · obtain ⟨ns, hDc, hl, hns, Bc, kc⟩ := hP
    refine ⟨by simp [wipe, List.set_set], ?_⟩
    dsimp only [tYes]
    rw [if_pos rfl]
    refine helt _ _ _ Bc fun n H2 n0 n1 B2 k2 => ⟨_, k2 _ _ neD hDc, ?_, ns ++ [n], ?_, ?_, ?_, box_ne B2 neD, but_new (kc.trans k2) hD⟩
    · rw [List.length_map]
      exact szl (by omega)
    · rw [upd_same, List.map_append]
      rfl
    · rw [List.length_append, hl]
      rfl
    · intro x hx
      rcases List.mem_append.mp hx with h | h
      · exact hns x h
      · rw [List.mem_singleton] at h
        subst h
        exact ⟨n0, n1⟩
  · obtain ⟨ns, hDc, hl, hns, Bc, kc⟩ := hP
    exact k D ns Hc (k1.free neD hD) neD hDc (by omega) hns Bc (k1.trans kc)
theorem if_go {tt : TT} {ta tb : TE} {σ : L2.St} {H : Hp} {Q : VK} (h : tt σ H fun c H1 => if c = true then ta σ H1 Q else tb σ H1 Q) : tIf tt ta tb σ H Q := h
theorem cb_go {r : List V → Hp → VK → Prop} {te : TE} {σ : L2.St} {H : Hp} {Q : VK} (h : te σ H (fun x H1 => r [x] H1 Q)) : tCB r (tCons te tNil) σ H Q := h
end Rs
/-! v in o, v not in o by an own __contains__; what is_whole says of anything. -/
namespace Rs
open PySem PySem.Spec PyProof.Rows L2
section
variable {X : Cx} {CX : CXT} {C g : Addr} {n : Nat} {sp : Sp} {E : XK}
def rInM (C : Addr) (neg : Bool) (sp : Sp) (E : XK) : R2 := fun v y H Q => ∃ a dx fs, y = .ref a ∧ H a = some (.ins C dx fs) ∧ sp [.ref a, v] H (fun z H' => ∃ r, z = .bl r ∧ Q (.bl (if neg then !r else r)) H') E
theorem op_inM (M : Meth X.K C "__contains__" g) (F : FnR X.prog X.w X.K X.mg X.base CX n g sp) (hr : Room n X.A) (hx : Passes CX X E) : OpR X (compareOp .In) (rInM C false sp E) := by
  intro pins s σ H x y v u Q I rx ry h
  obtain ⟨a, dx, fs, rfl, ha, q⟩ := h
  cases (show u = Value.ref a from ry)
  obtain ⟨ox, od, J⟩ := ins_at I ha
  obtain ⟨m, hF⟩ := I.fr
  refine PySem.W.in_K hF I.ok.mod.kin J M.at_ M.fn ?_
  refine wpAny_mono (wpAny_call (run_fnR (us := [.ref a, v]) (vs := [.ref a, x]) F hr hx I (.cons rfl (.cons rx .nil)) q)) (fun w s' z => ?_) fun _ _ x => x
  obtain ⟨z', H', I', rz, r, ez, qz⟩ := z
  subst ez
  cases (show w = Value.bool r from rz)
  exact wpAny_truthy_bool ⟨.bl r, H', I', rfl, qz⟩
theorem op_notInM (M : Meth X.K C "__contains__" g) (F : FnR X.prog X.w X.K X.mg X.base CX n g sp) (hr : Room n X.A) (hx : Passes CX X E) : OpR X (compareOp .NotIn) (rInM C true sp E) := by
  intro pins s σ H x y v u Q I rx ry h
  obtain ⟨a, dx, fs, rfl, ha, q⟩ := h
  cases (show u = Value.ref a from ry)
  obtain ⟨ox, od, J⟩ := ins_at I ha
  obtain ⟨m, hF⟩ := I.fr
  refine PySem.W.notIn_K hF I.ok.mod.kin J M.at_ M.fn ?_
  refine wpAny_mono (wpAny_call (run_fnR (us := [.ref a, v]) (vs := [.ref a, x]) F hr hx I (.cons rfl (.cons rx .nil)) q)) (fun w s' z => ?_) fun _ _ x => x
  obtain ⟨z', H', I', rz, r, ez, qz⟩ := z
  subst ez
  cases (show w = Value.bool r from rz)
  exact wpAny_truthy_bool ⟨.bl (!r), H', I', rfl, qz⟩
end
theorem inV_int {n : Int} {ns : List Int} : inV (.int n) (ns.map V.int) = decide (n ∈ ns) := by
  induction ns with
  | nil => rfl
  | cons m ns ih =>
    unfold inV at ih ⊢
    rw [List.map_cons, List.any_cons, ih]
    show ((m == n) || decide (n ∈ ns)) = decide (n ∈ m :: ns)
    by_cases h : m = n
    · subst h
      simp
    · have h' : ¬ n = m := fun e => h e.symm
      simp [h, h']
theorem flat_ints {ns : List Int} : (ns.map V.int).all flatV = true := by
  induction ns with
  | nil => rfl
  | cons m ns ih =>
    rw [List.map_cons, List.all_cons, ih]
    rfl
/-- what is_whole says of a value: the integer that it is, if it is one -/
def IsV (K : PySem.W.Frag) (H : Hp) (v : V) (o : Option Int) : Prop := ∃ t r, TyX K H v t ∧ PySem.W.kitOne K t (.type "int") = some r ∧ (r = false → o = none) ∧
  (r = true → ∃ c, PySem.W.kitOne K t (.type "bool") = some c ∧ (c = true → o = none) ∧ (c = false → ∃ i, v = .int i ∧ o = some i))
def wholeV : V → Option Int
  | .int i => some i
  | _ => none
theorem Sh.isV {K : PySem.W.Frag} {b : Addr} {H : Hp} {v : V} (h : Sh b H v) : IsV K H v (wholeV v) := by
  obtain ⟨t, ty, ki, kb⟩ := h.ty (K := K)
  refine ⟨_, _, ty, kit_ty ki, fun e => ?_, fun e => ⟨_, kit_ty kb, fun e2 => ?_, fun e2 => ?_⟩⟩
  · cases v <;> first | rfl | exact absurd e (by simp [isInt])
  · cases v <;> first | rfl | exact absurd e2 (by simp [isBl])
  · cases v with
    | int i => exact ⟨i, rfl, rfl⟩
    | bl c => exact absurd e2 (by simp [isBl])
    | _ => exact absurd e (by simp [isInt, isBl])
theorem kit_own_int {K : PySem.W.Frag} {C : Addr} (N : OwnN K C) : PySem.W.kitOne K (.ref C) (.type "int") = some false := by
  have hm : PySem.W.kitMeta "int" = true := by decide +kernel
  have hs : PySem.W.subIn K (.ref C) (.type "int") = some false := N.it
  unfold PySem.W.kitOne PySem.W.kitCls
  simp [hm, hs]
theorem isV_own {K : PySem.W.Frag} {C x dx : Addr} {fs : List (Str × V)} {H : Hp} (I : OwnI K C) (c : Cls K C) (N : OwnN K C) (h : H x = some (.ins C dx fs)) : IsV K H (.ref x) none :=
  ⟨_, false, I.ty c h, kit_own_int N, fun _ => rfl, fun e => nomatch e⟩
end Rs
/-! ~o, o & p and the like by own methods; what stays of written and unwritten lists when one instance changes. -/
namespace Rs
open PySem PySem.Spec PyProof.Rows L2
section
variable {X : Cx} {CX : CXT} {C g : Addr} {n : Nat} {sp : Sp} {E : XK}
def rUnM (C : Addr) (sp : Sp) (E : XK) : V → Hp → VK → Prop := fun x H Q => ∃ a dx fs, x = .ref a ∧ H a = some (.ins C dx fs) ∧ sp [.ref a] H Q E
theorem un_invM (M : Meth X.K C "__invert__" g) (F : FnR X.prog X.w X.K X.mg X.base CX n g sp) (hr : Room n X.A) (hx : Passes CX X E) : UnR X (unaryOp .Invert) (rUnM C sp E) := by
  intro pins s σ H x v Q I rx h
  obtain ⟨a, dx, fs, rfl, ha, q⟩ := h
  cases (show v = Value.ref a from rx)
  obtain ⟨ox, od, J⟩ := ins_at I ha
  obtain ⟨m, hF⟩ := I.fr
  exact PySem.W.ksp_inv hF I.ok.mod.kin J M.at_ M.fn (wpAny_call (run_fnR (us := [.ref a]) (vs := [.ref a]) F hr hx I (.cons rfl .nil) q))
end
/-- a list that an instance's change leaves -/
theorem SeqI.but {K : PySem.W.Frag} {H F : Hp} {a x C dx : Addr} {gs : List (Str × V)} {ns : List Int} (h : SeqI K H a ns) (hx : H x = some (.ins C dx gs)) (k : But x H F) : SeqI K F a ns := by
  have ne : ∀ o, H a = some o → (∀ C dx gs, o ≠ .ins C dx gs) → a ≠ x := fun o e no z => by
    subst z
    rw [hx] at e
    injection e with e
    exact no _ _ _ e.symm
  rcases h with h | h
  · rcases h with (h | ⟨o, h⟩) | h
    · exact .inl (.inl (.inl (k _ _ (ne _ h (fun _ _ _ e => nomatch e)) h)))
    · exact .inl (.inl (.inr ⟨o, k _ _ (ne _ h (fun _ _ _ e => nomatch e)) h⟩))
    · exact .inl (.inr h)
  · rcases h with (h | ⟨o, h⟩) | h
    · exact .inr (.inl (.inl (k _ _ (ne _ h (fun _ _ _ e => nomatch e)) h)))
    · exact .inr (.inl (.inr ⟨o, k _ _ (ne _ h (fun _ _ _ e => nomatch e)) h⟩))
    · exact .inr (.inr h)
theorem sqL_ty {K : PySem.W.Frag} {H : Hp} {a : Addr} {xs : List V} (h : SqL K H a xs) : (∃ t, TyX K H (.ref a) t ∧ (t = .type "list")) ∨ ∃ o, H a = some (.frz o (.lst xs)) := by
  rcases h with (h | ⟨o, h⟩) | ⟨o, its, n, h1, h2, _⟩
  · exact .inl ⟨_, .base (.lst h), rfl⟩
  · exact .inr ⟨o, h⟩
  · exact .inl ⟨_, .kList h1 h2, rfl⟩
/-- e.f within a comprehension -/
theorem pe_fldK {X : Cx} {K : PySem.W.Frag} {ex : Expr} {f : Str} {pos : Pos} {ta : TE} (e : X.K = K) (he : PE X ex ta) (hb : attributeBase ex f X.env (eval ex X.env) = eval ex X.env) : PE X (.Attribute ex f pos) (tFld K ta f) := by
  subst e
  exact pe_fld he hb
theorem szL2 {n : Nat} (h : n ≤ 100000) : n < sizeLine := Nat.lt_of_le_of_lt h (by rw [sizeLine_eq]; decide)
theorem ix_listK {X : Cx} {K : PySem.W.Frag} (e : X.K = K) : IxR X (rIxL K) := by
  subst e
  exact ix_list
theorem ix_tupK {X : Cx} {K : PySem.W.Frag} (e : X.K = K) : IxR X (rIxT K) := by
  subst e
  exact ix_tup
/-- return f(e, ..): the first argument first -/
theorem retc_go {sp : Sp} {ds : List V} {E : XK} {te : TE} {ta : TA} {D : Ends} {σ : L2.St} {H : Hp} (h : te σ H (fun x H1 => ta σ H1 fun xs H2 => sp ((x :: xs) ++ ds) H2 D.rt E)) : tRet (tCall sp ds E (tCons te ta)) D σ H := h
theorem ret_go {te : TE} {D : Ends} {σ : L2.St} {H : Hp} (h : te σ H D.rt) : tRet te D σ H := h
/-- [n for n in a if f n] over a tuple of ints -/
theorem lfilt {K : PySem.W.Frag} {a : Addr} {ns : List Int} {te : TE} {tt : TT} {sl : Nat} {σ : L2.St} {H : Hp} {Q : VK} (f : Int → Bool) (hte : ∀ R : VK, R (.ref a) H → te σ H R) (hS : SqT K H a (ns.map V.int)) (hl : sl < σ.length) (ln : ns.length ≤ 3000)
    (htt : ∀ n Hc (R : Bool → Hp → Prop), Same H Hc → R (f n) Hc → tt ((wipe σ [sl]).set sl (some (.int n))) Hc R)
    (k : ∀ D H', H D = none → Same H H' → H' D = some (.lst ((ns.filter f).map V.int)) → Q (.ref D) H') : tLc (iTup K te) (gName sl) tt (tVar sl) [sl] σ H Q := by
  refine hte _ ⟨a, rfl, ⟨_, hS⟩, fun D hD => lc_it walk_tup (fun i Hc => Hc D = some (.lst (((ns.take i).filter f).map V.int)) ∧ Same H Hc) ⟨upd_same, same_new hD⟩ (fun i Hc _ hR => (Fz.of_same hR.2).sqT hS) (fun j x Hc H' hj hR hy => ?_) (fun Hc hR => ?_)⟩
  · obtain ⟨rfl, hx⟩ := hy
    obtain ⟨n, rfl, tk⟩ := take_int hx
    obtain ⟨hDc, sc⟩ := hR
    refine ⟨by simp [wipe, List.set_set], htt n _ _ sc ?_⟩
    refine ifB (fun g => ?_) (fun g => ?_)
    · refine ⟨.int n, by simp [wipe, List.getElem?_set, hl], _, hDc, ?_, ?_, same_lst sc hD⟩
      · rw [List.length_map]
        have := List.length_filter_le f (ns.take j)
        rw [List.length_take] at this
        exact szL2 (by omega)
      · rw [upd_same, tk, List.filter_append, List.filter_cons, g, List.map_append]
        rfl
    · refine ⟨?_, sc⟩
      rw [tk, List.filter_append, List.filter_cons, g]
      simpa using hDc
  · rw [List.length_map, List.take_length] at hR
    exact k D Hc hD hR.2 hR.1
theorem at_head {y : Int} {t : List Int} : atI ((y :: t).map V.int) 0 = some (.int y) := atI_ok (by decide) rfl rfl
theorem op_in_seqK {X : Cx} {K : PySem.W.Frag} (e : X.K = K) : OpR X (compareOp .In) (rIn K false) := by
  subst e
  exact op_in_seq
/-- [n for n in range(lo, hi) if f n] -/
theorem lcond {targ : TA} {tt : TT} {sl : Nat} {σ : L2.St} {H : Hp} {Q : VK} {lo hi : Int} (f : Int → Bool) (b1 : -1000 ≤ lo) (b2 : lo ≤ 3000) (b3 : -1000 ≤ hi) (b4 : hi ≤ 3000) (harg : ∀ R : List V → Hp → Prop, R [.int lo, .int hi] H → targ σ H R) (hl : sl < σ.length)
    (htt : ∀ n Hc (R : Bool → Hp → Prop), lo ≤ n → n < hi → Same H Hc → R (f n) Hc → tt ((wipe σ [sl]).set sl (some (.int n))) Hc R)
    (k : ∀ D H', H D = none → Same H H' → H' D = some (.lst ((((List.range (hi - lo).toNat).map fun i : Nat => lo + (i : Int)).filter f).map V.int)) → Q (.ref D) H') : tLc (iRng2 targ) (gName sl) tt (tVar sl) [sl] σ H Q := by
  refine harg _ ⟨lo, hi, rfl, by omega, fun D hD => ?_⟩
  refine lc_range (fun i Hc => Hc D = some (.lst ((((List.range i).map fun i : Nat => lo + (i : Int)).filter f).map V.int)) ∧ Same H Hc) ⟨upd_same, same_new hD⟩ (fun i Hc hi' hP => ?_) (fun Hc hP => k D Hc hD hP.2 hP.1)
  obtain ⟨hDc, sc⟩ := hP
  refine ⟨by simp [wipe, List.set_set], htt _ _ _ (by omega) (by omega) sc ?_⟩
  have z : ((List.range (i + 1)).map fun i : Nat => lo + (i : Int)).filter f = ((List.range i).map fun i : Nat => lo + (i : Int)).filter f ++ (if f (lo + (i : Int)) = true then [lo + (i : Int)] else []) := by
    rw [range_succ_map, List.filter_append, List.filter_cons, List.filter_nil]
  refine ifB (fun g => ?_) (fun g => ?_)
  · rw [if_pos g] at z
    refine ⟨.int (lo + (i : Nat)), by simp [wipe, List.getElem?_set, hl], _, hDc, ?_, ?_, same_lst sc hD⟩
    · rw [List.length_map]
      have := List.length_filter_le f ((List.range i).map fun i : Nat => lo + (i : Int))
      rw [List.length_map, List.length_range] at this
      exact szL2 (by omega)
    · rw [upd_same, z, List.map_append]
      rfl
  · rw [if_neg (by rw [g]; exact Bool.false_ne_true), List.append_nil] at z
    rw [z]
    exact ⟨hDc, sc⟩
section
variable {σ : L2.St} {H : Hp}
theorem tst_go {r : R2} {ta tb : TE} {Q : Bool → Hp → Prop} (h : ta σ H fun x H1 => tb σ H1 fun y H2 => r x y H2 fun z H3 => ∃ k, z = .bl k ∧ Q k H3) : tTest (tOp r ta tb) σ H Q := h
theorem or_go {t u : TT} {Q : Bool → Hp → Prop} (h : t σ H fun c H1 => if c = true then Q true H1 else u σ H1 Q) : tOr t u σ H Q := h
theorem prop_go {C : Addr} {sp : Sp} {E : XK} {ta : TE} {Q : VK} (h : ta σ H fun x H1 => ∃ a dx fs, x = .ref a ∧ H1 a = some (.ins C dx fs) ∧ sp [.ref a] H1 Q E) : tProp C sp [] E ta σ H Q := h
theorem opl_go {r : R2} {ta tb : TE} {Q : VK} (h : ta σ H fun x H1 => tb σ H1 fun y H2 => r x y H2 Q) : tOp r ta tb σ H Q := h
theorem un_go {r : V → Hp → VK → Prop} {ta : TE} {Q : VK} (h : ta σ H fun x H1 => r x H1 Q) : tUn r ta σ H Q := h
theorem seqif_go {c : TT} {t u rest : TS} {D : Ends} (h : c σ H fun b H1 => if b = true then t { D with nx := fun σ2 H2 => rest D σ2 H2 } σ H1 else u { D with nx := fun σ2 H2 => rest D σ2 H2 } σ H1) : tSeq (tIfS c t u) rest D σ H := h
end
end Rs
/-! o & p, o <= p and the like by own methods, both of one class. -/
namespace Rs
open PySem PySem.Spec PyProof.Rows L2
section
variable {X : Cx} {CX : CXT} {C g : Addr} {n : Nat} {sp : Sp} {E : XK}
/-- x op y by the class's own method, both instances of the class at C; the answer is not NotImplemented: no value here is -/
def rBinM (C : Addr) (sp : Sp) (E : XK) : R2 := fun x y H Q => ∃ a dx fs b dy gs, x = .ref a ∧ y = .ref b ∧ H a = some (.ins C dx fs) ∧ H b = some (.ins C dy gs) ∧ sp [x, y] H Q E
theorem op_binM {op : Operator} (M : Meth X.K C (dunder op.info.snd) g) (hc : PySem.W.selfFirst X.K C = true) (F : FnR X.prog X.w X.K X.mg X.base CX n g sp) (hr : Room n X.A) (hx : Passes CX X E) : OpR X (binaryOp op) (rBinM C sp E) := by
  intro pins s σ H x y v u Q I rx ry h
  obtain ⟨a, dx, fs, b, dy, gs, rfl, rfl, ha, hb, q⟩ := h
  cases (show v = Value.ref a from rx)
  cases (show u = Value.ref b from ry)
  obtain ⟨ox, od, J⟩ := ins_at I ha
  obtain ⟨oy, ody, Jb⟩ := ins_at I hb
  obtain ⟨m, hF⟩ := I.fr
  refine PySem.W.binop_K hF I.ok.mod.kin J Jb.type hc M.at_ M.fn ?_
  refine wpAny_mono (wpAny_call (run_fnR (us := [.ref a, .ref b]) (vs := [.ref a, .ref b]) F hr hx I (.cons rfl (.cons rfl .nil)) q)) (fun w s' z => ?_) fun _ _ x => x
  obtain ⟨z', H', I', rz, qz⟩ := z
  exact SlX.cmpback rz ⟨z', H', I', rz, qz⟩
/-- x <= y and the like -/
theorem op_cmpM {op : CmpOp} (ho : compareOp op = richCompare op) (M : Meth X.K C ((cmpInfo op).snd.fst) g) (F : FnR X.prog X.w X.K X.mg X.base CX n g sp) (hr : Room n X.A) (hx : Passes CX X E) : OpR X (compareOp op) (rBinM C sp E) := by
  intro pins s σ H x y v u Q I rx ry h
  obtain ⟨a, dx, fs, b, dy, gs, rfl, rfl, ha, hb, q⟩ := h
  cases (show v = Value.ref a from rx)
  cases (show u = Value.ref b from ry)
  obtain ⟨ox, od, J⟩ := ins_at I ha
  obtain ⟨oy, ody, Jb⟩ := ins_at I hb
  obtain ⟨m, hF⟩ := I.fr
  rw [ho]
  refine PySem.W.cmp_K (op := op) (tb := .ref C) hr.units0 hF I.ok.mod.kin J Jb.type notFirst_self M.at_ M.fn ?_
  refine wpAny_mono (wpAny_call (run_fnR (us := [.ref a, .ref b]) (vs := [.ref a, .ref b]) F hr hx I (.cons rfl (.cons rfl .nil)) q)) (fun w s' z => ?_) fun _ _ x => x
  obtain ⟨z', H', I', rz, qz⟩ := z
  exact SlX.cmpback rz ⟨z', H', I', rz, qz⟩
theorem cmpLe : compareOp .LtE = richCompare .LtE := rfl
theorem cmpLt : compareOp .Lt = richCompare .Lt := rfl
theorem cmpGe : compareOp .GtE = richCompare .GtE := rfl
theorem cmpGt : compareOp .Gt = richCompare .Gt := rfl
end
end Rs
/-! list(zip(a, b)) of two lists. -/
namespace Rs
open PySem PySem.Spec PyProof.Rows L2
theorem wpAny_alive {M : Model} {A : Around} {E : Value → Shared → Prop} {s : Shared} {a : Addr} {Q : Option Obj → Shared → Prop} (h : Q (s.heap.get? a) s) : wpAny M A (Sem.loadIfAlive a Sem.pure) Q E s := by
  intro Γ p hΓ
  rw [Sem.wp_loadIfAlive]
  exact h
def zipO (T0 : Addr) (t : Tok) (fl : Bool) (TI TO : Addr) : Obj := { cls := .type "zip", data := .fields #[.int (T0 : Int) t, .bool fl, .bool false, .ref TI, .ref TO] }
section
variable {prog : Program} {w : World} {A : Around} {E : Value → Shared → Prop} {z TI TO i1 i2 l1 l2 T0 : Addr} {k : Nat} {xs ys : Array Value} {x y a b : Value} {o : Obj} {t : Tok} 
theorem draw1 {s : Shared} {it l : Addr} (hA : A.handled = none) (ne : l ≠ it) (h1 : s.heap.IsListIter it l k) (h2 : s.heap.IsList l xs) (hx : xs[k]? = some x) {Q : Value → Shared → Prop}
    (q : ∀ h' tk, h'.IsListIter it l (k + 1) → Heap.SameBut it s.heap h' → Q x { heap := h', gens := s.gens, drawn := s.drawn, toks := tk, os := s.os }) : wpAny (model prog w) A (Builtin.SmallTypes.nextOf (.ref it)) Q E s := by
  have lt : k < xs.size := by
    rcases Nat.lt_or_ge k xs.size with h | h
    · exact h
    · rw [Array.getElem?_eq_none h] at hx
      cases hx
  refine (Draws.list (prog := prog) (w := w) hA it l ne xs).item k s Q E lt ⟨h1, h2⟩ (fun v h' tk hv st sb => ?_)
  rw [hx] at hv
  injection hv with hv
  subst hv
  exact q h' tk st.1 sb
theorem iter_but {h h' : Heap} {c it l : Addr} {i : Nat} (sb : Heap.SameBut c h h') (ne : it ≠ c) (q : h.IsListIter it l i) : h'.IsListIter it l i := by
  obtain ⟨o, e, r⟩ := q
  exact ⟨o, by rw [sb.2 _ ne]; exact e, r⟩
theorem list_but {h h' : Heap} {c l : Addr} {xs : Array Value} (sb : Heap.SameBut c h h') (ne : l ≠ c) (q : h.IsList l xs) : h'.IsList l xs := by
  obtain ⟨o, e, r⟩ := q
  exact ⟨o, by rw [sb.2 _ ne]; exact e, r⟩
theorem owned_no {s : Shared} {fl : Bool} {Q : Bool → Shared → Prop}
    (hz : s.heap.get? z = some { cls := .type "zip", data := .fields #[.int (T0 : Int) t, .bool fl, .bool false, .ref TI, .ref TO] }) (hT : s.heap.get? T0 = some o)
    (q : ∀ h', h'.get? z = some { cls := .type "zip", data := .fields #[.int (T0 : Int) t, .bool true, .bool false, .ref TI, .ref TO] } → Heap.SameBut z s.heap h' →
      Q false { heap := h', gens := s.gens, drawn := s.drawn, toks := s.toks, os := s.os }) :
    wpAny (model prog w) A (Builtin.SmallTypes.ownedTupleIsFree (.ref z)) Q E s := by
  unfold Builtin.SmallTypes.ownedTupleIsFree
  refine wpAny_bind (wpAny_field hz rfl rfl ?_)
  dsimp only
  refine wpAny_bind (wpAny_alive ?_)
  rw [show ((T0 : Int)).toNat = T0 from Int.toNat_natCast T0, hT]
  rw [if_neg (by simp)]
  refine wpAny_bind (wpAny_field hz rfl rfl ?_)
  cases fl
  · split
    · refine wpAny_bind (wpAny_setField hz rfl (show 1 < 5 by decide) (wpAny_pure ?_))
      exact q _ (Heap.get?_update_self _ hz rfl) (Heap.SameBut.update _ _ _)
    · rename_i c
      exact absurd rfl c
  · split
    · rename_i c
      exact absurd c (by simp)
    · exact wpAny_pure (q s.heap hz ⟨rfl, fun _ _ => rfl⟩)
/-- one more pair, the elder one of the zip being held -/
theorem zip_again {s : Shared} {fl : Bool} {Q : PySem.Fin → Shared → Prop} (hA : A.handled = none) (ap : ZipApart z TI TO i1 i2 l1 l2)
    (hz : s.heap.get? z = some { cls := .type "zip", data := .fields #[.int (T0 : Int) t, .bool fl, .bool false, .ref TI, .ref TO] }) (hT : s.heap.get? T0 = some o)
    (hTI : s.heap.get? TI = some { cls := .type "tuple", data := .seq #[.ref i1, .ref i2] })
    (h1 : s.heap.IsListIter i1 l1 k) (h2 : s.heap.IsListIter i2 l2 k) (g1 : s.heap.IsList l1 xs) (g2 : s.heap.IsList l2 ys) (hx : xs[k]? = some x) (hy : ys[k]? = some y)
    (q : ∀ h' tk, h'.get? z = some { cls := .type "zip", data := .fields #[.int (T0 : Int) t, .bool true, .bool false, .ref TI, .ref TO] } → h'.IsListIter i1 l1 (k + 1) → h'.IsListIter i2 l2 (k + 1) →
      h'.get? s.heap.objs.size = some { cls := .type "tuple", data := .seq #[x, y] } → h'.objs.size = s.heap.objs.size + 1 →
      (∀ c o, c ≠ z → c ≠ i1 → c ≠ i2 → s.heap.get? c = some o → h'.get? c = some o) → Q (.done (.ret (.ref s.heap.objs.size))) { heap := h', gens := s.gens, drawn := s.drawn, toks := tk, os := s.os }) :
    wpAny (model prog w) A (Builtin.«zip.__next__» ⟨[.ref z], []⟩) Q E s := by
  unfold Builtin.«zip.__next__»
  repeat (first
    | (refine owned_no hz hT (fun h0 hz0 sb0 => ?_))
    | (refine draw1 hA ap.l2i2 (iter_but sb ap.i12.symm (iter_but sb0 ap.i2z h2)) (list_but sb ap.l2i1 (list_but sb0 ap.l2z g2)) hy (fun h3 tk3 j2 sb3 => ?_))
    | (refine draw1 hA ap.l1i1 (iter_but sb0 ap.i1z h1) (list_but sb0 ap.l1z g1) hx (fun h' tk j1 sb => ?_))
    | wp_step)
  have sz : h3.objs.size = s.heap.objs.size := sb3.1.trans (sb.1.trans sb0.1)
  have old : ∀ c o, c ≠ z → c ≠ i1 → c ≠ i2 → s.heap.get? c = some o → h3.get? c = some o := fun c o c1 c2 c3 h => by
    rw [sb3.2 c c3, sb.2 c c2, sb0.2 c c1]
    exact h
  have z3 : h3.get? z = some { cls := .type "zip", data := .fields #[.int (T0 : Int) t, .bool true, .bool false, .ref TI, .ref TO] } := by
    rw [sb3.2 z ap.i2z.symm, sb.2 z ap.i1z.symm]
    exact hz0
  rw [sz]
  refine q _ _ (Heap.get?_push_of_some _ z3) ?_ ?_ ?_ ?_ ?_
  · obtain ⟨o, e, r⟩ := iter_but sb3 ap.i12 j1
    exact ⟨o, Heap.get?_push_of_some _ e, r⟩
  · obtain ⟨o, e, r⟩ := j2
    exact ⟨o, Heap.get?_push_of_some _ e, r⟩
  · rw [← sz]
    exact Heap.get?_push_size _ rfl
  · rw [Heap.size_push, sz]
  · intro c o c1 c2 c3 h
    exact Heap.get?_push_of_some _ (old c o c1 c2 c3 h)
end
end Rs
namespace Rs
open PySem PySem.Spec PyProof.Rows L2
section
variable {prog : Program} {w : World} {A : Around} {E : Value → Shared → Prop} {z TI TO i1 i2 l1 l2 T0 : Addr} {k : Nat} {xs ys : Array Value} {x y a b : Value} {o : Obj} {t : Tok} 
theorem draw_end {s : Shared} {it l : Addr} (hA : A.handled = none) (ne : l ≠ it) (h1 : s.heap.IsListIter it l xs.size) (h2 : s.heap.IsList l xs) {Q : Value → Shared → Prop}
    (q : ∀ h' e, Heap.ExtBut it s.heap h' → (∃ o, h'.get? e = some o ∧ o.cls = .type "StopIteration") → E (.ref e) { heap := h', gens := s.gens, drawn := s.drawn, toks := s.toks, os := s.os }) : wpAny (model prog w) A (Builtin.SmallTypes.nextOf (.ref it)) Q E s :=
  (Draws.list (prog := prog) (w := w) hA it l ne xs).done s Q E ⟨h1, h2⟩ q
/-- the first list is at its end -/
theorem zip_over {s : Shared} {fl : Bool} {Q : PySem.Fin → Shared → Prop} (hA : A.handled = none) (ap : ZipApart z TI TO i1 i2 l1 l2)
    (hz : s.heap.get? z = some { cls := .type "zip", data := .fields #[.int (T0 : Int) t, .bool fl, .bool false, .ref TI, .ref TO] }) (hT : s.heap.get? T0 = some o)
    (hTI : s.heap.get? TI = some { cls := .type "tuple", data := .seq #[.ref i1, .ref i2] })
    (h1 : s.heap.IsListIter i1 l1 xs.size) (g1 : s.heap.IsList l1 xs)
    (q : ∀ h' e, (∀ c o, c ≠ z → c ≠ i1 → s.heap.get? c = some o → h'.get? c = some o) → (∃ o, h'.get? e = some o ∧ o.cls = .type "StopIteration") → E (.ref e) { heap := h', gens := s.gens, drawn := s.drawn, toks := s.toks, os := s.os }) :
    wpAny (model prog w) A (Builtin.«zip.__next__» ⟨[.ref z], []⟩) Q E s := by
  unfold Builtin.«zip.__next__»
  repeat (first
    | (refine owned_no hz hT (fun h0 hz0 sb0 => ?_))
    | (refine draw_end hA ap.l1i1 (iter_but sb0 ap.i1z h1) (list_but sb0 ap.l1z g1) (fun h' e ex ho => q h' e (fun c o c1 c2 h => ex c o c2 (by rw [sb0.2 c c1]; exact h)) ho))
    | wp_step)
theorem zip_next {s : Shared} {Q : Option Value → Shared → Prop} {fl : Bool} (hA : A.handled = none) (ap : ZipApart z TI TO i1 i2 l1 l2)
    (hz : s.heap.get? z = some { cls := .type "zip", data := .fields #[.int (T0 : Int) t, .bool fl, .bool false, .ref TI, .ref TO] }) (hT : s.heap.get? T0 = some o)
    (hTI : s.heap.get? TI = some { cls := .type "tuple", data := .seq #[.ref i1, .ref i2] })
    (h1 : s.heap.IsListIter i1 l1 k) (h2 : s.heap.IsListIter i2 l2 k) (g1 : s.heap.IsList l1 xs) (g2 : s.heap.IsList l2 ys) (hx : xs[k]? = some x) (hy : ys[k]? = some y)
    (q : ∀ h' tk, h'.get? z = some { cls := .type "zip", data := .fields #[.int (T0 : Int) t, .bool true, .bool false, .ref TI, .ref TO] } → h'.IsListIter i1 l1 (k + 1) → h'.IsListIter i2 l2 (k + 1) →
      h'.get? s.heap.objs.size = some { cls := .type "tuple", data := .seq #[x, y] } → h'.objs.size = s.heap.objs.size + 1 →
      (∀ c o, c ≠ z → c ≠ i1 → c ≠ i2 → s.heap.get? c = some o → h'.get? c = some o) → Q (some (.ref s.heap.objs.size)) { heap := h', gens := s.gens, drawn := s.drawn, toks := tk, os := s.os }) :
    wpAny (model prog w) A (pyNext (.ref z)) Q E s := by
  unfold pyNext
  refine wpAny_bind (wpAny_attempt (wpAny_callSpecial?_slot (T := "zip") ⟨_, hz, rfl⟩ F.slot_zip_next (wpAny_call (codeAny_call_builtin F.slot_zip_next.plain F.entry_zip_next ?_))))
  refine F.slot_zip_next.check _ _ _ s (.ref z) [] [] _ ⟨_, hz, rfl⟩ (F.args_zip_next_1 _) ?_
  exact zip_again (A := A.in1) hA ap hz hT hTI h1 h2 g1 g2 hx hy (fun h' tk a1 a2 a3 a4 a5 a6 => wpAny_pure (q h' tk a1 a2 a3 a4 a5 a6))
theorem zip_end {s : Shared} {Q : Option Value → Shared → Prop} {fl : Bool} (hA : A.handled = none) (ap : ZipApart z TI TO i1 i2 l1 l2)
    (hz : s.heap.get? z = some { cls := .type "zip", data := .fields #[.int (T0 : Int) t, .bool fl, .bool false, .ref TI, .ref TO] }) (hT : s.heap.get? T0 = some o)
    (hTI : s.heap.get? TI = some { cls := .type "tuple", data := .seq #[.ref i1, .ref i2] })
    (h1 : s.heap.IsListIter i1 l1 xs.size) (g1 : s.heap.IsList l1 xs)
    (q : ∀ h', (∀ c o, c ≠ z → c ≠ i1 → s.heap.get? c = some o → h'.get? c = some o) → Q none { heap := h', gens := s.gens, drawn := s.drawn, toks := s.toks, os := s.os }) :
    wpAny (model prog w) A (pyNext (.ref z)) Q E s := by
  unfold pyNext
  refine wpAny_bind (wpAny_attempt (wpAny_callSpecial?_slot (T := "zip") ⟨_, hz, rfl⟩ F.slot_zip_next (wpAny_call (codeAny_call_builtin F.slot_zip_next.plain F.entry_zip_next ?_))))
  refine F.slot_zip_next.check _ _ _ s (.ref z) [] [] _ ⟨_, hz, rfl⟩ (F.args_zip_next_1 _) ?_
  refine zip_over (A := A.in1) hA ap hz hT hTI h1 g1 (fun h' e old ho => ?_)
  obtain ⟨o, ho, hc⟩ := ho
  dsimp only
  refine wpAny_bind (wpAny_isInstance (T := "StopIteration") (b := true) ⟨o, ho, hc⟩ (by first | rfl | simp [isSubtype] | decide) ?_)
  rw [if_pos rfl]
  exact wpAny_pure (q h' old)
/-- how a zip stands behind k pairs, the first one at T0 -/
structure ZSt (h : Heap) (z TI TO i1 i2 l1 l2 T0 : Addr) (xs ys : Array Value) (k : Nat) : Prop where
  zip : ∃ t fl, h.get? z = some { cls := .type "zip", data := .fields #[.int (T0 : Int) t, .bool fl, .bool false, .ref TI, .ref TO] }
  old : ∃ o, h.get? T0 = some o
  its : h.get? TI = some { cls := .type "tuple", data := .seq #[.ref i1, .ref i2] }
  at1 : h.IsListIter i1 l1 k
  at2 : h.IsListIter i2 l2 k
  li1 : h.IsList l1 xs
  li2 : h.IsList l2 ys
/-- the pairs laid down so far -/
structure ZOut (h : Heap) (lo : Nat) (xs ys : Array Value) (as : List Addr) : Prop where
  rise : as.Pairwise (· < ·)
  above : ∀ a ∈ as, lo ≤ a
  pairs : ∀ (j : Nat) (a : Addr), as[j]? = some a → ∃ x y, xs[j]? = some x ∧ ys[j]? = some y ∧ h.get? a = some { cls := .type "tuple", data := .seq #[x, y] }
theorem far {a b lo : Nat} (h : b < lo) (h2 : lo ≤ a) : a ≠ b := by omega
theorem ZOut.snoc {h h' : Heap} {lo : Nat} {xs ys : Array Value} {as : List Addr} {x y : Value} {n : Nat} (q : ZOut h lo xs ys as) (hn : as.length = n) (hx : xs[n]? = some x) (hy : ys[n]? = some y) (ho : ∀ a ∈ as, ∀ o, h.get? a = some o → h'.get? a = some o) (hl : lo ≤ h.objs.size)
    (hw : h'.get? h.objs.size = some { cls := .type "tuple", data := .seq #[x, y] }) : ZOut h' lo xs ys (as ++ [h.objs.size]) where
  rise := by
    rw [List.pairwise_append]
    refine ⟨q.rise, List.pairwise_singleton _ _, fun a ha b hb => ?_⟩
    rw [List.mem_singleton] at hb
    subst hb
    obtain ⟨j, hj⟩ := List.getElem?_of_mem ha
    obtain ⟨_, _, _, _, e⟩ := q.pairs j a hj
    exact Heap.lt_size e
  above := fun a ha => by
    rcases List.mem_append.mp ha with ha | ha
    · exact q.above a ha
    · rw [List.mem_singleton] at ha
      exact ha ▸ hl
  pairs := fun j a e => by
    rcases Nat.lt_or_ge j as.length with lt | ge
    · rw [List.getElem?_append_left lt] at e
      obtain ⟨x', y', ex, ey, et⟩ := q.pairs j a e
      exact ⟨x', y', ex, ey, ho a (List.mem_of_getElem? e) _ et⟩
    · rw [List.getElem?_append_right ge] at e
      have j0 : j - as.length = 0 := by
        rcases Nat.eq_zero_or_pos (j - as.length) with z | z
        · exact z
        · rw [List.getElem?_eq_none (by simp; omega)] at e
          cases e
      rw [j0] at e
      injection e with e
      subst e
      have : j = n := by omega
      subst this
      exact ⟨x, y, hx, hy, hw⟩
theorem quietL {args : Args} : (Code.builtin "list.extend.loop" args).quiet = true := by
  first | exact Code.quiet_builtin _ (by decide +kernel) | exact plainId_quiet (by decide +kernel) _
theorem zip_loop {R : Result → Shared → Prop} (hA : A.handled = none) (ap : ZipApart z TI TO i1 i2 l1 l2) (hl : xs.size = ys.size) (hs : xs.size ≤ sizeLine) {S : Addr} (ne : S ≠ z ∧ S ≠ TI ∧ S ≠ i1 ∧ S ≠ i2 ∧ S ≠ l1 ∧ S ≠ l2 ∧ S ≠ T0 ∧ S ≠ TO) (T0z : T0 ≠ z ∧ T0 ≠ i1 ∧ T0 ≠ i2) (res : Value) {lo : Nat} (lz : z < lo ∧ i1 < lo ∧ i2 < lo ∧ S < lo) (h0 : Heap) (s0 : Shared)
    (fin : ∀ (s' : Shared) (acc : Array Value) (c : Nat) (as : List Addr), s'.gens = s0.gens ∧ s'.drawn = s0.drawn ∧ s'.os = s0.os → (∀ b o, b ≠ z → b ≠ i1 → b ≠ i2 → b ≠ S → h0.get? b = some o → s'.heap.get? b = some o) → s'.heap.get? S = some { cls := .type "list", data := .seq acc c } →
      acc.toList = as.map Value.ref → as.length = xs.size → ZOut s'.heap lo xs ys as → R (.ok (.ret res)) s') :
    ∀ (d k : Nat) (s : Shared) (acc : Array Value) (c : Nat) (as : List Addr), (s.gens = s0.gens ∧ s.drawn = s0.drawn ∧ s.os = s0.os) → xs.size - k = d → k ≤ xs.size → lo ≤ s.heap.objs.size → ZSt s.heap z TI TO i1 i2 l1 l2 T0 xs ys k → (∀ b o, b ≠ z → b ≠ i1 → b ≠ i2 → b ≠ S → h0.get? b = some o → s.heap.get? b = some o) →
      s.heap.get? S = some { cls := .type "list", data := .seq acc c } → acc.toList = as.map Value.ref → as.length = k → ZOut s.heap lo xs ys as →
      codeAny (model prog w) A (.builtin "list.extend.loop" { pos := [.ref S, .ref z, res] }) R s := by
  intro d
  induction d with
  | zero =>
    intro k s acc c as he hd hk hlo zs old hS ha hn zo
    obtain ⟨t, fl, hz⟩ := zs.zip
    obtain ⟨o, hT⟩ := zs.old
    have ek : k = xs.size := by omega
    subst ek
    refine codeAny_builtin F.entry_extend_loop ?_
    unfold Builtin.«list.extend.loop»
    dsimp only
    refine wpAny_bind (zip_end (A := A.under _) hA ap hz hT zs.its zs.at1 zs.li1 (fun h' kp => ?_))
    dsimp only
    have kS : ∀ b o, b ≠ z → b ≠ i1 → b ≠ i2 → b ≠ S → h0.get? b = some o → h'.get? b = some o := fun b o b1 b2 b3 b4 h => kp b o b1 b2 (old b o b1 b2 b3 b4 h)
    refine wpAny_pure (fin _ acc c as he kS (kp _ _ ne.1 ne.2.2.1 hS) ha hn ⟨zo.rise, zo.above, fun j a e => ?_⟩)
    obtain ⟨x, y, ex, ey, et⟩ := zo.pairs j a e
    have := zo.above a (List.mem_of_getElem? e)
    exact ⟨x, y, ex, ey, kp _ _ (far lz.1 this) (far lz.2.1 this) et⟩
  | succ d ih =>
    intro k s acc c as he hd hk hlo zs old hS ha hn zo
    obtain ⟨t, fl, hz⟩ := zs.zip
    obtain ⟨o, hT⟩ := zs.old
    have lt : k < xs.size := by omega
    have lt2 : k < ys.size := by omega
    have hx : xs[k]? = some xs[k] := Array.getElem?_eq_getElem lt
    have hy : ys[k]? = some ys[k] := Array.getElem?_eq_getElem lt2
    have al : acc.size = k := by
      have := congrArg List.length ha
      rw [Array.length_toList, List.length_map] at this
      omega
    refine codeAny_builtin F.entry_extend_loop ?_
    unfold Builtin.«list.extend.loop»
    dsimp only
    refine wpAny_bind (zip_next (A := A.under _) hA ap hz hT zs.its zs.at1 zs.at2 zs.li1 zs.li2 hx hy (fun h' tk z' j1 j2 tp sz kp => ?_))
    dsimp only
    have hS' := kp S _ ne.1 ne.2.2.1 ne.2.2.2.1 hS
    refine wpAny_bind (wpAny_updateSeq (f := fun v => v.push (.ref s.heap.objs.size)) hS' rfl ?_ (by omega) (by rw [Array.size_push]; omega))
    have sb := Heap.SameBut.update h' S (Obj.mapSeq fun v => v.push (.ref s.heap.objs.size))
    have hS2 := Heap.get?_update_self (Obj.mapSeq fun v => v.push (.ref s.heap.objs.size)) hS' rfl
    generalize h'.update S (Obj.mapSeq fun v => v.push (.ref s.heap.objs.size)) = h2 at sb hS2
    have nS : s.heap.objs.size ≠ S := far lz.2.2.2 hlo
    have kp2 : ∀ b o, b ≠ z → b ≠ i1 → b ≠ i2 → b ≠ S → s.heap.get? b = some o → h2.get? b = some o := fun b o b1 b2 b3 b4 h => by
      rw [sb.2 b b4]
      exact kp b o b1 b2 b3 h
    have lst : ∀ {l : Addr} {vs : Array Value}, l ≠ z → l ≠ i1 → l ≠ i2 → S ≠ l → s.heap.IsList l vs → h2.IsList l vs := fun n1 n2 n3 n4 q => by
      obtain ⟨o, e, r⟩ := q
      exact ⟨o, kp2 _ _ n1 n2 n3 n4.symm e, r⟩
    refine wpAny_pure ⟨quietL, ih (k + 1) _ _ _ (as ++ [s.heap.objs.size]) he (by omega) lt (by show lo ≤ h2.objs.size; rw [sb.1, sz]; omega) ⟨⟨t, true, ?_⟩, ⟨o, kp2 _ _ T0z.1 T0z.2.1 T0z.2.2 ne.2.2.2.2.2.2.1.symm hT⟩, kp2 _ _ ap.TIz ap.TIi1 ap.TIi2 ne.2.1.symm zs.its, iter_but sb ne.2.2.1.symm j1, iter_but sb ne.2.2.2.1.symm j2, lst ap.l1z ap.l1i1 ap.l1i2 ne.2.2.2.2.1 zs.li1, lst ap.l2z ap.l2i1 ap.l2i2 ne.2.2.2.2.2.1 zs.li2⟩ (fun b o b1 b2 b3 b4 h => kp2 b o b1 b2 b3 b4 (old b o b1 b2 b3 b4 h)) hS2 ?_ (by rw [List.length_append, hn]; rfl) (zo.snoc hn hx hy (fun a ha' o e => ?_) hlo ?_)⟩
    · show h2.get? z = _
      rw [sb.2 z ne.1.symm]
      exact z'
    · rw [Array.toList_push, ha, List.map_append]
      rfl
    · have := zo.above a ha'
      exact kp2 a o (far lz.1 this) (far lz.2.1 this) (far lz.2.2.1 this) (far lz.2.2.2 this) e
    · show h2.get? _ = _
      rw [sb.2 _ nS]
      exact tp
end
end Rs
open PySem PySem.Spec PyProof.Rows L2
namespace Rs
section
variable {prog : Program} {w : World} {A : Around} {E : Value → Shared → Prop} {z TI TO i1 i2 l1 l2 T0 : Addr} {k : Nat} {xs ys : Array Value} {x y a b : Value} {o : Obj} {t : Tok} 
theorem zip_nolen : typeLookup (.type "zip") (Str.ofString "__len__") = pure none := rfl
theorem zip_nohint : typeLookup (.type "zip") (Str.ofString "__length_hint__") = pure none := rfl
/-- how a new zip stands -/
structure ZNew (h : Heap) (z TI TO i1 i2 l1 l2 : Addr) (xs ys : Array Value) : Prop where
  zip : IsZip h z TI TO .none
  its : IsPair h TI (.ref i1) (.ref i2)
  own : IsPair h TO .none .none
  at1 : h.IsListIter i1 l1 0
  at2 : h.IsListIter i2 l2 0
  li1 : h.IsList l1 xs
  li2 : h.IsList l2 ys
theorem ext_zip {R : Result → Shared → Prop} {s : Shared} {S : Addr} {res : Value} {c0 : Nat} (hA : A.handled = none) (ap : ZipApart z TI TO i1 i2 l1 l2)
    (zn : ZNew s.heap z TI TO i1 i2 l1 l2 xs ys) (nSz : S ≠ z)
    (hS : s.heap.get? S = some { cls := .type "list", data := .seq #[] c0 })
    (q : ∀ h' c, h'.get? S = some { cls := .type "list", data := .seq #[] c } → Heap.SameBut S s.heap h' → codeAny (model prog w) A (.builtin "list.extend.loop" { pos := [.ref S, .ref z, res] }) R { s with heap := h' }) :
    wpAny (model prog w) A.in1 (Builtin.List.listExtendWith (.ref S) (.ref z) res)
      (fun fin s' => match fin with | .done f => R (.ok f) s' | .again c' => c'.quiet = true ∧ codeAny (model prog w) A c' R s') (fun e s' => R (.error e) s') s := by
  have hz := zn.zip
  have iter : ∀ {E1 : Value → Shared → Prop} {Q1 : Value → Shared → Prop}, Q1 (.ref z) s → wpAny (model prog w) A.in1 (pyIter (.ref z)) Q1 E1 s := fun {E1 Q1} h1 =>
    (WalksT.zip2 (A := A.in1) hA z TI TO i1 i2 l1 l2 ap xs ys).self 0 s Q1 E1 ⟨zn.zip, zn.its, ⟨_, _, zn.own⟩, zn.at1, zn.at2, zn.li1, zn.li2⟩ h1
  have hint : ∀ {A1 : Around} {E1 : Value → Shared → Prop} {Q1 : Bool → Shared → Prop}, Q1 true s → wpAny (model prog w) A1 (Builtin.List.listLengthHint (.ref z)) Q1 E1 s := by
    intro A1 E1 Q1 h1
    unfold Builtin.List.listLengthHint
    repeat (first | (refine wpAny_of_eq zip_nolen ?_) | (refine wpAny_of_eq zip_nohint ?_) | wp_step)
    exact h1
  unfold Builtin.List.listExtendWith
  have sr : (Builtin.List.listSameRef (.ref S) (.ref z) || Value.type "zip" == Value.type "list" || Value.type "zip" == Value.type "tuple") = false := by
    have : Builtin.List.listSameRef (.ref S) (.ref z) = false := by
      unfold Builtin.List.listSameRef
      first | exact beq_false_of_ne nSz | simpa using nSz | simp [nSz]
    rw [this]
    rfl
  refine wpAny_bind (wpAny_typeOf_ref hz ?_)
  rw [sr]
  rw [if_neg (by decide)]
  refine wpAny_bind (iter ?_)
  refine wpAny_bind (wpAny_holding (hint ?_))
  dsimp only
  rw [Bool.true_or, if_pos rfl]
  repeat wp_step
  have s1 := Heap.SameBut.update s.heap S (Obj.mapSeq fun x => x.push Value.none)
  have g1 := Heap.get?_update_self (Obj.mapSeq fun x => x.push Value.none) hS rfl
  have s2 := Heap.SameBut.update (s.heap.update S (Obj.mapSeq fun x => x.push Value.none)) S (Obj.mapSeq fun x => x.pop)
  have g2 := Heap.get?_update_self (Obj.mapSeq fun x => x.pop) g1 rfl
  exact ⟨quietL, q _ _ g2 ⟨s2.1.trans s1.1, fun b hb => (s2.2 b hb).trans (s1.2 b hb)⟩⟩
theorem rawInt_is (n : Nat) : ∃ t, rawInt (n : Int) = .int (n : Int) t := ⟨_, rfl⟩
/-- the walk from the first pair on -/
theorem zip_walk {R : Result → Shared → Prop} {s : Shared} {S : Addr} {c0 : Nat} (hA : A.handled = none) (ap : ZipApart z TI TO i1 i2 l1 l2) (hl : xs.size = ys.size) (n0 : 0 < xs.size) (hs : xs.size ≤ sizeLine) (res : Value)
    (zn : ZNew s.heap z TI TO i1 i2 l1 l2 xs ys) (ne : S ≠ z ∧ S ≠ TI ∧ S ≠ i1 ∧ S ≠ i2 ∧ S ≠ l1 ∧ S ≠ l2 ∧ S ≠ TO)
    (hS : s.heap.get? S = some { cls := .type "list", data := .seq #[] c0 })
    (fin : ∀ (s' : Shared) (acc : Array Value) (c : Nat) (as : List Addr), s'.gens = s.gens ∧ s'.drawn = s.drawn ∧ s'.os = s.os → (∀ b o, b ≠ z → b ≠ TO → b ≠ i1 → b ≠ i2 → b ≠ S → s.heap.get? b = some o → s'.heap.get? b = some o) → s'.heap.get? S = some { cls := .type "list", data := .seq acc c } →
      acc.toList = as.map Value.ref → as.length = xs.size → ZOut s'.heap s.heap.objs.size xs ys as → R (.ok (.ret res)) s') :
    codeAny (model prog w) A (.builtin "list.extend.loop" { pos := [.ref S, .ref z, res] }) R s := by
  have lt2 : 0 < ys.size := by omega
  have hx : xs[0]? = some xs[0] := Array.getElem?_eq_getElem n0
  have hy : ys[0]? = some ys[0] := Array.getElem?_eq_getElem lt2
  have bz := Heap.lt_size zn.zip
  have bS := Heap.lt_size hS
  have b1 : i1 < s.heap.objs.size := by
    obtain ⟨o, e, _⟩ := zn.at1
    exact Heap.lt_size e
  have b2 : i2 < s.heap.objs.size := by
    obtain ⟨o, e, _⟩ := zn.at2
    exact Heap.lt_size e
  refine codeAny_builtin F.entry_extend_loop ?_
  unfold Builtin.«list.extend.loop»
  dsimp only
  refine wpAny_bind (wpAny_pyNext_zip_item ap zn.zip zn.its zn.own zn.at1 zn.at2 zn.li1 zn.li2 hx hy (fun h' z' to' j1 j2 tp sz kp => ?_))
  dsimp only
  have hS' := kp S _ ne.1 ne.2.2.2.2.2.2 ne.2.2.1 ne.2.2.2.1 hS
  refine wpAny_bind (wpAny_updateSeq (f := fun v => v.push (.ref s.heap.objs.size)) hS' rfl ?_ (by decide) (by show 1 ≤ sizeLine + 1; omega))
  have sb := Heap.SameBut.update h' S (Obj.mapSeq fun v => v.push (.ref s.heap.objs.size))
  have hS2 := Heap.get?_update_self (Obj.mapSeq fun v => v.push (.ref s.heap.objs.size)) hS' rfl
  generalize h'.update S (Obj.mapSeq fun v => v.push (.ref s.heap.objs.size)) = h2 at sb hS2
  have nS : s.heap.objs.size ≠ S := far bS (Nat.le_refl _)
  have kp2 : ∀ b o, b ≠ z → b ≠ TO → b ≠ i1 → b ≠ i2 → b ≠ S → s.heap.get? b = some o → h2.get? b = some o := fun b o b1 b2 b3 b4 b5 h => by
    rw [sb.2 b b5]
    exact kp b o b1 b2 b3 b4 h
  have lst : ∀ {l : Addr} {vs : Array Value}, l ≠ z → l ≠ TO → l ≠ i1 → l ≠ i2 → S ≠ l → s.heap.IsList l vs → h2.IsList l vs := fun n1 n2 n3 n4 n5 q => by
    obtain ⟨o, e, r⟩ := q
    exact ⟨o, kp2 _ _ n1 n2 n3 n4 n5.symm e, r⟩
  have tp2 : h2.get? s.heap.objs.size = some { cls := .type "tuple", data := .seq #[xs[0], ys[0]] } := by
    rw [sb.2 _ nS]
    exact tp
  obtain ⟨t, et⟩ := rawInt_is s.heap.objs.size
  refine wpAny_pure ⟨quietL, zip_loop (T0 := s.heap.objs.size) hA ap hl hs ⟨ne.1, ne.2.1, ne.2.2.1, ne.2.2.2.1, ne.2.2.2.2.1, ne.2.2.2.2.2.1, nS.symm, ne.2.2.2.2.2.2⟩ ⟨far bz (Nat.le_refl _), far b1 (Nat.le_refl _), far b2 (Nat.le_refl _)⟩ res (lo := s.heap.objs.size) ⟨bz, b1, b2, bS⟩ h2 s
    (fun s' acc c as he old hS3 ha hn zo => fin s' acc c as he (fun b o n1 n2 n3 n4 n5 h => old b o n1 n3 n4 n5 (kp2 b o n1 n2 n3 n4 n5 h)) hS3 ha hn zo)
    (xs.size - 1) 1 _ _ _ [s.heap.objs.size] ⟨rfl, rfl, rfl⟩ rfl n0 (by show s.heap.objs.size ≤ h2.objs.size; rw [sb.1, sz]; omega)
    ⟨⟨t, false, ?_⟩, ⟨_, tp2⟩, kp2 _ _ ap.TIz ap.TITO ap.TIi1 ap.TIi2 ne.2.1.symm zn.its, iter_but sb ne.2.2.1.symm j1, iter_but sb ne.2.2.2.1.symm j2, lst ap.l1z ap.l1TO ap.l1i1 ap.l1i2 ne.2.2.2.2.1 zn.li1, lst ap.l2z ap.l2TO ap.l2i1 ap.l2i2 ne.2.2.2.2.2.1 zn.li2⟩
    (fun b o _ _ _ _ h => h) hS2 rfl rfl ⟨List.pairwise_singleton _ _, fun a ha => by rw [List.mem_singleton.mp ha]; exact Nat.le_refl _, fun j a e => ?_⟩⟩
  · show h2.get? z = _
    rw [sb.2 z ne.1.symm, ← et]
    exact z'
  · cases j with
    | zero =>
      injection e with e
      subst e
      exact ⟨_, _, hx, hy, tp2⟩
    | succ j => cases e
end
end Rs
open PySem PySem.Spec PyProof.Rows L2
namespace Rs
section
variable {prog : Program} {w : World} {A : Around} {E : Value → Shared → Prop} {z TI TO i1 i2 l1 l2 T0 : Addr} {k : Nat} {xs ys : Array Value} {x y a b : Value} {o : Obj} {t : Tok} 
theorem ZNew.kept {h h' : Heap} (q : ZNew h z TI TO i1 i2 l1 l2 xs ys) (k : ∀ b o, h.get? b = some o → h'.get? b = some o) : ZNew h' z TI TO i1 i2 l1 l2 xs ys where
  zip := k _ _ q.zip
  its := k _ _ q.its
  own := k _ _ q.own
  at1 := by
    obtain ⟨o, e, r⟩ := q.at1
    exact ⟨o, k _ _ e, r⟩
  at2 := by
    obtain ⟨o, e, r⟩ := q.at2
    exact ⟨o, k _ _ e, r⟩
  li1 := by
    obtain ⟨o, e, r⟩ := q.li1
    exact ⟨o, k _ _ e, r⟩
  li2 := by
    obtain ⟨o, e, r⟩ := q.li2
    exact ⟨o, k _ _ e, r⟩
theorem init_zip {R : Result → Shared → Prop} {s : Shared} {S : Addr} {c0 : Nat} (hA : A.handled = none) (ap : ZipApart z TI TO i1 i2 l1 l2) (hl : xs.size = ys.size) (n0 : 0 < xs.size) (hs : xs.size ≤ sizeLine)
    (zn : ZNew s.heap z TI TO i1 i2 l1 l2 xs ys) (ne : S ≠ z ∧ S ≠ TI ∧ S ≠ i1 ∧ S ≠ i2 ∧ S ≠ l1 ∧ S ≠ l2 ∧ S ≠ TO)
    (hS : s.heap.get? S = some { cls := .type "list", data := .seq #[] c0 })
    (fin : ∀ (s' : Shared) (acc : Array Value) (c : Nat) (as : List Addr), s'.gens = s.gens ∧ s'.drawn = s.drawn ∧ s'.os = s.os → (∀ b o, b ≠ z → b ≠ TO → b ≠ i1 → b ≠ i2 → b ≠ S → s.heap.get? b = some o → s'.heap.get? b = some o) → s'.heap.get? S = some { cls := .type "list", data := .seq acc c } →
      acc.toList = as.map Value.ref → as.length = xs.size → ZOut s'.heap s.heap.objs.size xs ys as → R (.ok (.ret .none)) s') :
    codeAny (model prog w) A (.call (.builtin "list.__init__") { pos := [.ref S, .ref z] }) R s := by
  refine codeAny_call_builtin F.called_list.init.plain F.entry_list_init (F.called_list.init.check _ _ _ s (.ref S) [.ref z] [] _ ⟨_, hS, rfl⟩ rfl ?_)
  unfold Builtin.«list.__init__»
  dsimp only
  have hU := Heap.get?_update_self (Obj.mapSeq fun _ => #[]) hS rfl
  have sU := Heap.SameBut.update s.heap S (Obj.mapSeq fun _ => #[])
  have step : wpAny (model prog w) A.in1 (Builtin.List.listExtendWith (.ref S) (.ref z) .none)
      (fun fin s' => match fin with | .done f => R (.ok f) s' | .again c' => c'.quiet = true ∧ codeAny (model prog w) A c' R s') (fun e s' => R (.error e) s') { s with heap := s.heap.update S (Obj.mapSeq fun _ => #[]) } := by
    have kp : ∀ b o, b ≠ S → s.heap.get? b = some o → (s.heap.update S (Obj.mapSeq fun _ => #[])).get? b = some o := fun b o nb h => by
      rw [sU.2 b nb]
      exact h
    have znU : ZNew (s.heap.update S (Obj.mapSeq fun _ => #[])) z TI TO i1 i2 l1 l2 xs ys := by
      refine ⟨kp _ _ ne.1.symm zn.zip, kp _ _ ne.2.1.symm zn.its, kp _ _ ne.2.2.2.2.2.2.symm zn.own, iter_but sU ne.2.2.1.symm zn.at1, iter_but sU ne.2.2.2.1.symm zn.at2, list_but sU ne.2.2.2.2.1.symm zn.li1, list_but sU ne.2.2.2.2.2.1.symm zn.li2⟩
    refine ext_zip (xs := xs) (ys := ys) hA ap znU ne.1 hU (fun h' c hS' sb => ?_)
    have kp2 : ∀ b o, b ≠ S → s.heap.get? b = some o → h'.get? b = some o := fun b o nb h => by
      rw [sb.2 b nb]
      exact kp b o nb h
    have zn2 : ZNew h' z TI TO i1 i2 l1 l2 xs ys := by
      refine ⟨kp2 _ _ ne.1.symm zn.zip, kp2 _ _ ne.2.1.symm zn.its, kp2 _ _ ne.2.2.2.2.2.2.symm zn.own, iter_but sb ne.2.2.1.symm znU.at1, iter_but sb ne.2.2.2.1.symm znU.at2, list_but sb ne.2.2.2.2.1.symm znU.li1, list_but sb ne.2.2.2.2.2.1.symm znU.li2⟩
    have sz : h'.objs.size = s.heap.objs.size := sb.1.trans sU.1
    refine zip_walk hA ap hl n0 hs .none zn2 ne hS' (fun s' acc c as he old h3 ha hn zo => fin s' acc c as he (fun b o b1 b2 b3 b4 b5 h => old b o b1 b2 b3 b4 b5 (kp2 b o b5 h)) h3 ha hn ?_)
    rw [← sz]
    exact zo
  repeat (first
    | (refine step)
    | wp_step)
/-- list(z), z a new zip of two lists of one length -/
theorem call_list_zip {s : Shared} {Q : Value → Shared → Prop} (hA : A.handled = none) (ap : ZipApart z TI TO i1 i2 l1 l2) (hl : xs.size = ys.size) (n0 : 0 < xs.size) (hs : xs.size ≤ sizeLine)
    (zn : ZNew s.heap z TI TO i1 i2 l1 l2 xs ys)
    (fin : ∀ (s' : Shared) (acc : Array Value) (c : Nat) (as : List Addr), s'.gens = s.gens ∧ s'.drawn = s.drawn ∧ s'.os = s.os → (∀ b o, b ≠ z → b ≠ TO → b ≠ i1 → b ≠ i2 → s.heap.get? b = some o → s'.heap.get? b = some o) → s'.heap.get? s.heap.objs.size = some { cls := .type "list", data := .seq acc c } →
      acc.toList = as.map Value.ref → as.length = xs.size → ZOut s'.heap (s.heap.objs.size + 1) xs ys as → Q (.ref s.heap.objs.size) s') :
    wpAny (model prog w) A (call (.type "list") [.ref z]) Q E s := by
  have lt : ∀ b o, s.heap.get? b = some o → b ≠ s.heap.objs.size := fun b o e => (far (Heap.lt_size e) (Nat.le_refl _)).symm
  have ne : s.heap.objs.size ≠ z ∧ s.heap.objs.size ≠ TI ∧ s.heap.objs.size ≠ i1 ∧ s.heap.objs.size ≠ i2 ∧ s.heap.objs.size ≠ l1 ∧ s.heap.objs.size ≠ l2 ∧ s.heap.objs.size ≠ TO := by
    obtain ⟨_, a1, _⟩ := zn.at1
    obtain ⟨_, a2, _⟩ := zn.at2
    obtain ⟨_, a3, _⟩ := zn.li1
    obtain ⟨_, a4, _⟩ := zn.li2
    exact ⟨(lt _ _ zn.zip).symm, (lt _ _ zn.its).symm, (lt _ _ a1).symm, (lt _ _ a2).symm, (lt _ _ a3).symm, (lt _ _ a4).symm, (lt _ _ zn.own).symm⟩
  have zn2 : ZNew (s.heap.push { cls := .type "list", data := .seq #[] }) z TI TO i1 i2 l1 l2 xs ys := zn.kept fun b o e => Heap.get?_push_of_some _ e
  refine wpAny_call (codeAny_of_tree ?_)
  have e : (model prog w).den (Code.call (Value.type "list") { pos := [Value.ref z] }) = denote table (Code.call (Value.type "list") { pos := [Value.ref z] }) := rfl
  rw [e]
  unfold denote
  dsimp only
  unfold callAny
  dsimp only
  refine wpAny_pure ⟨Code.quiet_builtin _ (by decide +kernel), codeAny_builtin F.entry_type_call ?_⟩
  unfold Builtin.«type.__call__»
  dsimp only
  repeat (first
    | (refine wpAny_of_eq (F.typeCall_list_1 _) ?_)
    | (refine wpAny_of_eq F.called_list.made ?_)
    | (refine wpAny_call (code_list_new _ ?_))
    | (refine wpAny_isInstance (T := "list") ⟨_, Heap.get?_push_size _ rfl, rfl⟩ F.called_list.sub ?_)
    | (refine wpAny_callSpecial?_slot (T := "list") ⟨_, Heap.get?_push_size _ rfl, rfl⟩ F.called_list.init (wpAny_call (init_zip (A := A.under _) hA ap hl n0 hs zn2 ne (Heap.get?_push_size _ rfl) (fun s' acc c as he old h3 ha hn zo => ?_))))
    | wp_step)
  refine fin s' acc c as he (fun b o b1 b2 b3 b4 h => old b o b1 b2 b3 b4 (lt b o h) (Heap.get?_push_of_some _ h)) h3 ha hn ?_
  have sz : (s.heap.push { cls := .type "list", data := .seq #[] }).objs.size = s.heap.objs.size + 1 := Heap.size_push _ _
  exact sz ▸ zo
end
end Rs
/-! many new objects laid at once -/
open PySem PySem.Spec PyProof.Rows L2
namespace Rs
/-- a heap's first n objects -/
def cutH (h : Heap) (n : Nat) : Heap := { h with objs := h.objs.extract 0 n }
theorem cutH_at {h : Heap} {n : Nat} {b : Nat} (lt : b < n) : (cutH h n).objs[b]? = h.objs[b]? := by
  unfold cutH
  dsimp only
  rw [Array.getElem?_extract]
  split
  · rw [Nat.zero_add]
  · rw [Array.getElem?_eq_none (by omega)]
theorem cutH_get {h : Heap} {n : Nat} {b : Addr} (lt : b < n) : (cutH h n).get? b = h.get? b := by
  unfold Heap.get?
  rw [cutH_at lt]
theorem cutH_size {h : Heap} {n : Nat} (le : n ≤ h.objs.size) : (cutH h n).objs.size = n := by
  unfold cutH
  simp
  omega
theorem cutH_lt {h : Heap} {n : Nat} {b : Addr} {u : Obj} (le : n ≤ h.objs.size) (e : (cutH h n).get? b = some u) : b < n := by
  have := Heap.lt_size e
  rw [cutH_size le] at this
  exact this
theorem lay {X : Cx} {pins : List (Addr × Obj)} {σ : L2.St} {h' : Heap} {g : Array GenState} {dr : Drawn} {tk : Nat} {os : OsState} : ∀ (ts : List (Addr × HO)) (H : Hp) (n : Nat), Inv X pins σ H { heap := cutH h' n, gens := g, drawn := dr, toks := tk, os := os } → n ≤ h'.objs.size →
    (∀ p ∈ ts, n ≤ p.1 ∧ p.1 < h'.objs.size) → ts.Pairwise (fun p q => p.1 < q.1) → (∀ p ∈ ts, ∀ H h, h.get? p.1 = h'.get? p.1 → ObjOk X.prog X.w H h p.1 p.2) →
    Inv X pins σ (ts.foldl (fun H p => upd H p.1 p.2) H) { heap := h', gens := g, drawn := dr, toks := tk, os := os }
  | [], H, n, I, le, _, _, _ => I.kept (t' := tk) fun b u e => by
    have lt := cutH_lt le e
    rw [cutH_get lt] at e
    exact e
  | p :: ts, H, n, I, le, hp, rise, ok => by
    have p0 := hp p (List.mem_cons_self ..)
    have pn : p.1 + 1 ≤ h'.objs.size := p0.2
    have rr := List.pairwise_cons.mp rise
    refine lay ts (upd H p.1 p.2) (p.1 + 1) (I.laid (h' := cutH h' (p.1 + 1)) (t' := tk) (fun b u e => ?_) ?_ (ok p (List.mem_cons_self ..) _ _ (cutH_get (Nat.lt_succ_self _)))) pn (fun q hq => ⟨rr.1 q hq, (hp q (List.mem_cons_of_mem _ hq)).2⟩) rr.2 fun q hq => ok q (List.mem_cons_of_mem _ hq)
    · have lt := cutH_lt le e
      rw [cutH_get lt] at e
      rw [cutH_get (show b < p.1 + 1 from Nat.lt_succ_of_lt (Nat.lt_of_lt_of_le lt p0.1))]
      exact e
    · show (cutH h' n).objs.size ≤ p.1
      rw [cutH_size le]
      exact p0.1
theorem laid_many {X : Cx} {pins : List (Addr × Obj)} {σ : L2.St} {H : Hp} {s : Shared} {h' : Heap} {tk : Nat} {ts : List (Addr × HO)} (I : Inv X pins σ H s) (k : ∀ b u, s.heap.get? b = some u → h'.get? b = some u) (sz : s.heap.objs.size ≤ h'.objs.size)
    (hp : ∀ p ∈ ts, s.heap.objs.size ≤ p.1 ∧ p.1 < h'.objs.size) (rise : ts.Pairwise (fun p q => p.1 < q.1)) (ok : ∀ p ∈ ts, ∀ H h, h.get? p.1 = h'.get? p.1 → ObjOk X.prog X.w H h p.1 p.2) :
    Inv X pins σ (ts.foldl (fun H p => upd H p.1 p.2) H) { heap := h', gens := s.gens, drawn := s.drawn, toks := tk, os := s.os } :=
  lay ts H s.heap.objs.size (I.kept (h' := cutH h' s.heap.objs.size) (t' := tk) fun b u e => by
    rw [cutH_get (Heap.lt_size e)]
    exact k b u e) sz hp rise ok
theorem laid_at {ts : List (Addr × HO)} : ∀ {H : Hp} {a : Addr}, (∀ p ∈ ts, p.1 ≠ a) → ts.foldl (fun H p => upd H p.1 p.2) H a = H a := by
  induction ts with
  | nil => exact fun _ => rfl
  | cons p ts ih =>
    intro H a h
    rw [List.foldl_cons, ih fun q hq => h q (List.mem_cons_of_mem _ hq)]
    exact upd_ne (h p (List.mem_cons_self ..)).symm
theorem laid_in {ts : List (Addr × HO)} : ∀ {H : Hp} {p : Addr × HO}, ts.Pairwise (fun p q => p.1 < q.1) → p ∈ ts → ts.foldl (fun H p => upd H p.1 p.2) H p.1 = some p.2 := by
  induction ts with
  | nil => exact fun _ h => nomatch h
  | cons q ts ih =>
    intro H p r h
    have rr := List.pairwise_cons.mp r
    rw [List.foldl_cons]
    rcases List.mem_cons.mp h with rfl | h
    · rw [laid_at fun q hq => Nat.ne_of_gt (rr.1 q hq)]
      exact upd_same
    · exact ih rr.2 h
end Rs
/-! the rule of list(zip(a, b)) -/
open PySem PySem.Spec PyProof.Rows L2
namespace Rs
def tListZip (ta : TA) : TE := fun σ H Q => ta σ H fun vs H1 => ∃ (a b : Addr) (xs ys : List V), vs = [.ref a, .ref b] ∧ H1 a = some (.lst xs) ∧ H1 b = some (.lst ys) ∧ xs.length = ys.length ∧ 0 < xs.length ∧
  ∀ (H' : Hp) (L : Addr) (ts : List Addr), Same H1 H' → H1 L = none → H' L = some (.lst (ts.map V.ref)) → ts.length = xs.length →
    (∀ (j : Nat) (t : Addr), ts[j]? = some t → H1 t = none ∧ ∃ x y, xs[j]? = some x ∧ ys[j]? = some y ∧ H' t = some (.tup [x, y])) → Q (.ref L) H'
theorem zip_pair {α β : Type} {as : List α} {bs : List β} {p : α × β} (h : p ∈ as.zip bs) : ∃ j : Nat, as[j]? = some p.1 ∧ bs[j]? = some p.2 := by
  obtain ⟨j, hj⟩ := List.getElem?_of_mem h
  rw [List.getElem?_zip_eq_some] at hj
  exact ⟨j, hj.1, hj.2⟩
theorem vals_refs : ∀ as : List Addr, Vals (as.map V.ref) (as.map Value.ref)
  | [] => .nil
  | _ :: as => .cons rfl (vals_refs as)
theorem lay_zip {X : Cx} {pins : List (Addr × Obj)} {σ : L2.St} {H : Hp} {s s' : Shared} {L : Addr} {acc : Array Value} {c : Nat} {as : List Addr} {xs ys : List V} {us vs : List Value} (I : Inv X pins σ H s) (he : s'.gens = s.gens ∧ s'.drawn = s.drawn ∧ s'.os = s.os)
    (k : ∀ b u, s.heap.get? b = some u → s'.heap.get? b = some u) (hL : s.heap.objs.size ≤ L) (gL : s'.heap.get? L = some { cls := .type "list", data := .seq acc c }) (ea : acc.toList = as.map Value.ref) (el : as.length = us.length)
    (zo : ZOut s'.heap (L + 1) us.toArray vs.toArray as) (rx : Vals xs us) (ry : Vals ys vs) (l1 : us.length ≤ sizeLine) (l2 : us.length = vs.length) :
    ∃ H', Inv X pins σ H' s' ∧ Same H H' ∧ H L = none ∧ H' L = some (.lst (as.map V.ref)) ∧ ∀ (j : Nat) (t : Addr), as[j]? = some t → H t = none ∧ ∃ x y, xs[j]? = some x ∧ ys[j]? = some y ∧ H' t = some (.tup [x, y]) := by
  have lx := rx.length
  have ly := ry.length
  have szL := Heap.lt_size gL
  have sa : ∀ a ∈ as, L < a := fun a ha => zo.above a ha
  have sb : ∀ a ∈ as, a < s'.heap.objs.size := fun a ha => by
    obtain ⟨j, hj⟩ := List.getElem?_of_mem ha
    obtain ⟨_, _, _, _, e⟩ := zo.pairs j a hj
    exact Heap.lt_size e
  have fresh : ∀ b, s.heap.objs.size ≤ b → H b = none := fun b hb => I.hok.fresh hb
  have pl : (List.zipWith (fun x y => HO.tup [x, y]) xs ys).length = as.length := by
    rw [List.length_zipWith]
    omega
  have mf : (as.zip (List.zipWith (fun x y => HO.tup [x, y]) xs ys)).map Prod.fst = as := List.map_fst_zip (by omega)
  have rise : ((L, HO.lst (as.map V.ref)) :: as.zip (List.zipWith (fun x y => HO.tup [x, y]) xs ys)).Pairwise (fun p q => p.1 < q.1) := by
    refine List.pairwise_cons.mpr ⟨fun q hq => sa _ ?_, ?_⟩
    · rw [← mf]
      exact List.mem_map_of_mem hq
    · have := zo.rise
      rw [← mf, List.pairwise_map] at this
      exact this
  have J := laid_many (h' := s'.heap) (tk := s'.toks) (ts := (L, HO.lst (as.map V.ref)) :: as.zip (List.zipWith (fun x y => HO.tup [x, y]) xs ys)) I k (Nat.le_of_lt (Nat.lt_of_le_of_lt hL szL)) (fun p hp => ?_) rise (fun p hp H h e => ?_)
  · refine ⟨List.foldl (fun (H : Hp) (p : Addr × HO) => upd H p.1 p.2) H ((L, HO.lst (as.map V.ref)) :: as.zip (List.zipWith (fun x y => HO.tup [x, y]) xs ys)), ?_, ?_, fresh L hL, laid_in rise (List.mem_cons_self ..), fun j t ht => ?_⟩
    · obtain ⟨e1, e2, e3⟩ := he
      rw [← e1, ← e2, ← e3] at J
      exact J
    · intro b o hb
      rw [laid_at]
      · exact hb
      · intro p hp c
        have : H b = none := fresh b ?_
        · rw [this] at hb; cases hb
        · subst c
          rcases List.mem_cons.mp hp with rfl | hp
          · exact hL
          · obtain ⟨j, hj, _⟩ := zip_pair hp
            exact Nat.le_of_lt (Nat.lt_of_le_of_lt hL (sa _ (List.mem_of_getElem? hj)))
    · have lt : j < as.length := (List.getElem?_eq_some_iff.mp ht).1
      have ex : xs[j]? = some xs[j] := List.getElem?_eq_getElem (by omega)
      have ey : ys[j]? = some ys[j] := List.getElem?_eq_getElem (by omega)
      refine ⟨fresh t (Nat.le_of_lt (Nat.lt_of_le_of_lt hL (sa _ (List.mem_of_getElem? ht)))), _, _, ex, ey, ?_⟩
      refine laid_in (p := (t, HO.tup [xs[j], ys[j]])) rise (List.mem_cons_of_mem _ (List.mem_of_getElem? (i := j) ?_))
      rw [List.getElem?_zip_eq_some]
      refine ⟨ht, ?_⟩
      rw [List.getElem?_zipWith, ex, ey]
  · rcases List.mem_cons.mp hp with rfl | hp
    · exact ⟨hL, szL⟩
    · obtain ⟨j, hj, _⟩ := zip_pair hp
      have := List.mem_of_getElem? hj
      exact ⟨Nat.le_of_lt (Nat.lt_of_le_of_lt hL (sa _ this)), sb _ this⟩
  · rcases List.mem_cons.mp hp with rfl | hp
    · refine ⟨by rw [List.length_map]; omega, as.map Value.ref, c, vals_refs as, ?_⟩
      rw [e]
      show s'.heap.get? L = _
      rw [gL, ← ea]
    · obtain ⟨j, hj, h2⟩ := zip_pair hp
      obtain ⟨u, v, eu, ev, et⟩ := zo.pairs j p.1 hj
      have lt : j < as.length := (List.getElem?_eq_some_iff.mp hj).1
      have ex : xs[j]? = some xs[j] := List.getElem?_eq_getElem (by omega)
      have ey : ys[j]? = some ys[j] := List.getElem?_eq_getElem (by omega)
      rw [List.getElem?_zipWith, ex, ey] at h2
      injection h2 with h2
      rw [← h2]
      obtain ⟨u', hu, ru⟩ := rx.get ex
      obtain ⟨v', hv, rv⟩ := ry.get ey
      rw [List.getElem?_toArray] at eu ev
      rw [hu] at eu
      rw [hv] at ev
      injection eu with eu
      injection ev with ev
      subst eu
      subst ev
      exact ⟨by show 2 ≤ sizeLine; decide, [u', v'], .cons ru (.cons rv .nil), ⟨_, e.trans et, rfl, _, rfl⟩⟩
theorem apart {n a b : Nat} (ha : a < n) (hb : b < n) : ZipApart (n + 4) (n + 2) (n + 3) n (n + 1) a b := by
  constructor <;> (intro e; have e' : (_ : Nat) = _ := e; omega)
theorem ne4 {n b : Nat} (h : b < n) : b ≠ n + 4 ∧ b ≠ n + 3 ∧ b ≠ n ∧ b ≠ n + 1 := by omega
theorem pe_listZip {X : Cx} {e e2 : Expr} {ta : TA} {p p2 zpos pos : Pos} (hc : X.calm = true) (hg : Gl X "list") (hm : X.mg "list" = none) (hz : Gl X "zip") (hmz : X.mg "zip" = none) (ha : PA X [e, e2] ta)
    (hs : starEach [e, e2] X.env = (false, eval e X.env) :: starEach [e2] X.env := by rfl) (hs2 : ((backTo zpos (starEach [e2] X.env)).any fun x => x.1) = false := by rfl)
    (hs3 : starEach [.Call (.Name "zip" p2) [e, e2] [] zpos] X.env = (false, eval (.Call (.Name "zip" p2) [e, e2] [] zpos) X.env) :: starEach [] X.env := by rfl) :
    PE X (.Call (.Name "list" p) [.Call (.Name "zip" p2) [e, e2] [] zpos] [] pos) (tListZip ta) := by
  refine ⟨fun pins s σ H Q I hyp => Call_ (ld_blt I hg hm boot_list (callWith_type1 (spliced_more (Call_ (ld_blt I hz hmz boot_zip (callWith_type1 (thn (ha.run zpos pins s σ H _ I hyp) fun us s1 res => ?_) hs hs2))) hs3) hs3 rfl))⟩
  obtain ⟨vs, H1, I1, r1, a, b, xs, ys, rfl, hA, hB, hl, n0, q⟩ := res
  cases r1 with
  | cons r rr =>
    cases rr with
    | cons r2 rr =>
      cases rr
      cases r
      cases r2
      obtain ⟨us, ru, pa, la⟩ := I1.list (SqL.of hA)
      obtain ⟨vs, rv, pb, lb⟩ := I1.list (SqL.of hB)
      have lu := ru.length
      have lv := rv.length
      refine call_zip_2 pa.isList pb.isList (fun h' z ti to j1 j2 sz kp => ?_)
      have la' : a < s1.heap.objs.size := by
        obtain ⟨o, e, _⟩ := pa.isList
        exact Heap.lt_size e
      have lb' : b < s1.heap.objs.size := by
        obtain ⟨o, e, _⟩ := pb.isList
        exact Heap.lt_size e
      have kl : ∀ {l : Addr} {ws : Array Value}, s1.heap.IsList l ws → h'.IsList l ws := fun q => by
        obtain ⟨o, e, r⟩ := q
        exact ⟨o, kp _ _ e, r⟩
      have es : us.toArray.size = vs.toArray.size := by
        show us.length = vs.length
        omega
      refine spliced_none (call_list_zip (xs := us.toArray) (ys := vs.toArray) (I1.ok.hd hc) (apart la' lb') es (show 0 < us.length by omega) (show us.length ≤ sizeLine by omega) ⟨z, ti, to, j1, j2, kl pa.isList, kl pb.isList⟩ (fun s' acc c as he old hL hacc hn zo => ?_))
      have sz' : h'.objs.size = s1.heap.objs.size + 5 := sz
      obtain ⟨H', J, sm, nL, hH, pr⟩ := lay_zip (L := h'.objs.size) (us := us) (vs := vs) I1 he (fun b' u e' => by
        have lt := Heap.lt_size e'
        exact old b' u (ne4 lt).1 (ne4 lt).2.1 (ne4 lt).2.2.1 (ne4 lt).2.2.2 (kp b' u e')) (by rw [sz']; omega) hL hacc hn zo ru rv (show us.length ≤ sizeLine by omega) (show us.length = vs.length by omega)
      exact ⟨.ref h'.objs.size, H', J, rfl, q H' h'.objs.size as sm nL hH (hn.trans (show us.length = xs.length by omega)) pr⟩
end Rs
/-! math.lcm; v in a tuple of data. -/
namespace Rs
open PySem PySem.Spec PyProof.Rows L2
section
variable {X : Cx}
def rLcm : List V → Hp → VK → Prop := fun vs H Q => ∃ a b : Int, vs = [.int a, .int b] ∧ a.natAbs < 2 ^ 64 ∧ b.natAbs < 2 ^ 64 ∧ Q (.int ((Nat.lcm a.natAbs b.natAbs : Nat) : Int)) H
theorem cr_lcm : CallR X (.builtin "math.lcm") rLcm := by
  intro pins s σ H vs us Q I r h
  obtain ⟨a, b, rfl, ha, hb, q⟩ := h
  obtain ⟨t, u, rfl⟩ := Vals.int2 r
  exact PySem.W.mc_lcm ha hb fun _ => ⟨.int _, H, I.tok _, ⟨_, rfl⟩, q⟩
def rInTD (K : PySem.W.Frag) (neg : Bool) : R2 := fun x y H Q => ∃ d ds, Dp K H x d ∧ Dp K H y (.tuple ds) ∧ SeqAt.shaped d = true ∧ SeqAt.shaped (.tuple ds) = true ∧ Q (.bl (if neg then !(ds.any fun z => PyData.eqv z d) else ds.any fun z => PyData.eqv z d)) H
theorem op_inTD {K : PySem.W.Frag} (e : X.K = K) (hu : X.A.units + 65 < cLine) : OpR X (compareOp .In) (rInTD K false) := by
  subst e
  intro pins s σ H x y v u Q I rx ry h
  obtain ⟨d, ds, hd, he, sd, se, q⟩ := h
  obtain ⟨as, r1⟩ := Dp.reads I d x v hd rx
  obtain ⟨bs, r2⟩ := Dp.reads I (.tuple ds) y u he ry
  exact SeqAt.in_tuple_reads r2 r1 (SeqAt.canLay_of_shaped se) (SeqAt.canLay_of_shaped sd) (PyProof.Rows.room_in_shaped sd hu) ⟨.bl _, H, I, rfl, q⟩
end
/-- [e for x in l] over a list of any things, with a reading of e by its place -/
theorem lmapI {K : PySem.W.Frag} {L : Addr} {xs : List V} {te el : TE} {sl : Nat} {σ : L2.St} {H : Hp} {Q : VK} (f : Nat → V) (hte : ∀ R : VK, R (.ref L) H → te σ H R) (hL : H L = some (.lst xs)) (ln : xs.length ≤ 3000)
    (hel : ∀ (j : Nat) (x : V), xs[j]? = some x → ∀ (Hc : Hp) (R : VK), Same H Hc → (∀ Hd, Same Hc Hd → R (f j) Hd) → el ((wipe σ [sl]).set sl (some x)) Hc R)
    (k : ∀ D H', H D = none → Same H H' → H' D = some (.lst ((List.range xs.length).map f)) → Q (.ref D) H') : tLc (iList K te) (gName sl) tYes el [sl] σ H Q := by
  refine hte _ ⟨L, rfl, ⟨_, SqL.of hL⟩, fun D hD => lc_it walk_list (fun i Hc => Hc D = some (.lst ((List.range i).map f)) ∧ Same H Hc) ⟨upd_same, same_new hD⟩ (fun i Hc _ hR => hR.2.seq (SqL.of hL)) (fun j x Hc H' hj hR hy => ?_) (fun Hc hR => k D Hc hD hR.2 hR.1)⟩
  obtain ⟨rfl, hx⟩ := hy
  obtain ⟨hDc, sc⟩ := hR
  refine ⟨by simp [wipe, List.set_set], ?_⟩
  dsimp only [tYes]
  rw [if_pos rfl]
  have lt : j < xs.length := (List.getElem?_eq_some_iff.mp hx).1
  refine hel j x hx _ _ sc fun Hd sd => ?_
  refine ⟨_, sd _ _ hDc, ?_, ?_, same_lst (sc.trans sd) hD⟩
  · rw [List.length_map, List.length_range]
    exact szL2 (by omega)
  · rw [upd_same, List.range_succ, List.map_append]
    rfl
theorem val_go {te : TE} {v : V} {σ : L2.St} {H : Hp} {Q : VK} (h : ∀ R : VK, R v H → te σ H R) (k : Q v H) : te σ H Q := h Q k
end Rs
/-! str(o) by an own __str__; texts of ints separated by blanks, and what such a text tells. -/
namespace Rs
open PySem PySem.Spec PyProof.Rows L2
section
variable {X : Cx} {CX : CXT} {C g : Addr} {n : Nat} {sp : Sp} {E : XK}
def rStrO (C : Addr) (sp : Sp) (E : XK) : List V → Hp → VK → Prop := fun xs H Q => ∃ a dx fs, xs = [.ref a] ∧ H a = some (.ins C dx fs) ∧ sp [.ref a] H (fun z H' => ∃ y, z = .str y ∧ Q (.str y) H') E
theorem call_strO (M : Meth X.K C "__str__" g) (F : FnR X.prog X.w X.K X.mg X.base CX n g sp) (hr : Room (n + 2) X.A) (hx : Passes CX X E) : CallR X (.type "str") (rStrO C sp E) := by
  intro pins s σ H xs us Q I r h
  obtain ⟨a, dx, fs, rfl, ha, q⟩ := h
  cases r with
  | cons r1 rr =>
    cases rr
    cases (show _ = Value.ref a from r1)
    obtain ⟨ox, od, J⟩ := ins_at I ha
    have hr1 : Room (n + 1) X.A.in1 := Room.in1 hr
    have hr2 : Room n X.A.in1.in1 := Room.in1 hr1
    refine PySem.W.kso_call (by have := hr2.un; omega) I.kIn J M.at_ M.fn ?_
    refine wpAny_mono (wpAny_call (SlX.run_at (us := [.ref a]) (ws := [.ref a]) F hr2 I.env0.in1.in1 hx I (.cons rfl .nil) q)) (fun w s' z => ?_) fun _ _ x => x
    obtain ⟨z', H', I', rz, y, ez, qz⟩ := z
    subst ez
    obtain ⟨t, rfl⟩ := rz
    exact ⟨.str y, H', I', ⟨t, rfl⟩, qz⟩
end
/-! ### texts -/
def nS (n : Int) : Str := Str.ofString (toString n)
def blank : Str := Str.ofString " "
def spaced (ns : List Int) : Str := Txt.join blank (ns.map nS)
theorem nS_free (n : Int) : 32 ∉ TL.tl (nS n) := fun h => (intText_free_32 n).mp h
theorem nS_len {n : Int} (h0 : 0 ≤ n) (h1 : n < 10 ^ 9) : (nS n).length ≤ 10 := by
  have e := PySem.int_text_length_le10 (a := n) (k := 9) (by decide) (by omega)
  unfold nS
  rw [PySem.ofString_length]
  omega
theorem nS_num {n : Int} (h0 : 0 ≤ n) (h1 : n < 10 ^ 9) : PySem.intText? (nS n) = some n := PySem.W.KIN.num_reads h0 (by omega)
theorem nS_inj {n m : Int} (h0 : 0 ≤ n) (h1 : n < 10 ^ 9) (g0 : 0 ≤ m) (g1 : m < 10 ^ 9) (e : nS n = nS m) : n = m := by
  have a := nS_num h0 h1
  rw [e, nS_num g0 g1] at a
  injection a with a
  exact a.symm
theorem nS_map_inj : ∀ {ns ms : List Int}, (∀ n ∈ ns, 0 ≤ n ∧ n < 10 ^ 9) → (∀ n ∈ ms, 0 ≤ n ∧ n < 10 ^ 9) → ns.map nS = ms.map nS → ns = ms
  | [], [], _, _, _ => rfl
  | [], _ :: _, _, _, h => by simp at h
  | _ :: _, [], _, _, h => by simp at h
  | n :: ns, m :: ms, hn, hm, h => by
    rw [List.map_cons, List.map_cons] at h
    injection h with h1 h2
    have a := hn n List.mem_cons_self
    have b := hm m List.mem_cons_self
    rw [nS_inj a.1 a.2 b.1 b.2 h1, nS_map_inj (fun x hx => hn x (List.mem_cons_of_mem _ hx)) (fun x hx => hm x (List.mem_cons_of_mem _ hx)) h2]
theorem nS_not {n : Int} {w : Str} (h0 : 0 ≤ n) (h1 : n < 10 ^ 9) (hw : PySem.intText? w = none) : nS n ≠ w := fun e => by
  have a := nS_num h0 h1
  rw [e, hw] at a
  cases a
theorem join_append {y : Str} : ∀ {a b : List Str}, a ≠ [] → b ≠ [] → Str.join y (a ++ b) = Str.join y a ++ (y ++ Str.join y b)
  | [], _, h, _ => absurd rfl h
  | [x], [], _, h => absurd rfl h
  | [x], z :: b, _, _ => by
    show x ++ y ++ Str.join y (z :: b) = x ++ (y ++ Str.join y (z :: b))
    rw [Str.append_assoc]
  | x :: z :: a, b, _, hb => by
    show x ++ y ++ Str.join y (z :: a ++ b) = x ++ y ++ Str.join y (z :: a) ++ (y ++ Str.join y b)
    rw [join_append (by simp) hb, Str.append_assoc (x ++ y)]
def front (few : List Int) : Str := if few = [] then Str.ofString "-" else spaced few
def calText (few : List Int) (e p : Int) (rests : List Int) : Str :=
  if rests = [] then front few else front few ++ (Str.ofString " from " ++ (nS e ++ (Str.ofString " of " ++ (nS p ++ (Str.ofString ": " ++ spaced rests)))))
def frontW (few : List Int) : List Str := if few = [] then [Str.ofString "-"] else few.map nS
def tailW (e p : Int) (rests : List Int) : List Str := if rests = [] then [] else Str.ofString "from" :: nS e :: Str.ofString "of" :: (nS p ++ Str.ofString ":") :: rests.map nS
theorem frontW_ne {few : List Int} : frontW few ≠ [] := by
  unfold frontW
  split
  · simp
  · rename_i h
    simpa using h
theorem front_join {few : List Int} : front few = Str.join blank (frontW few) := by
  unfold front frontW
  split
  · rfl
  · exact TL.join_eq _ _
theorem calText_join {few rests : List Int} {e p : Int} : calText few e p rests = Str.join blank (frontW few ++ tailW e p rests) := by
  unfold calText tailW
  split
  · rw [List.append_nil, front_join]
  · rename_i h
    rw [join_append frontW_ne (by simp), ← front_join]
    congr 1
    have e1 : Str.ofString " from " = blank ++ (Str.ofString "from" ++ blank) := by decide
    have e2 : Str.ofString " of " = blank ++ (Str.ofString "of" ++ blank) := by decide
    have e3 : Str.ofString ": " = Str.ofString ":" ++ blank := by decide
    obtain ⟨r, t, rfl⟩ := List.exists_cons_of_ne_nil h
    rw [e1, e2, e3]
    have e4 : spaced (r :: t) = Str.join blank (nS r :: t.map nS) := TL.join_eq _ _
    rw [e4]
    show _ = blank ++ (Str.ofString "from" ++ blank ++ (nS e ++ blank ++ (Str.ofString "of" ++ blank ++ ((nS p ++ Str.ofString ":") ++ blank ++ Str.join blank (nS r :: t.map nS)))))
    simp only [Str.append_assoc]
theorem words_split {w : Str} : ∀ {F G X Y : List Str}, (∀ a ∈ F, a ≠ w) → (∀ a ∈ G, a ≠ w) → (X = [] ∨ ∃ t, X = w :: t) → (Y = [] ∨ ∃ t, Y = w :: t) → F ++ X = G ++ Y → F = G ∧ X = Y
  | [], [], _, _, _, _, _, _, e => ⟨rfl, e⟩
  | [], g :: G, X, Y, _, hG, hX, _, e => by
    rcases hX with rfl | ⟨t, rfl⟩
    · simp at e
    · simp only [List.nil_append, List.cons_append] at e
      injection e with e1 _
      exact absurd e1.symm (hG g List.mem_cons_self)
  | f :: F, [], X, Y, hF, _, _, hY, e => by
    rcases hY with rfl | ⟨t, rfl⟩
    · simp at e
    · simp only [List.nil_append, List.cons_append] at e
      injection e with e1 _
      exact absurd e1 (hF f List.mem_cons_self)
  | f :: F, g :: G, X, Y, hF, hG, hX, hY, e => by
    simp only [List.cons_append] at e
    injection e with e1 e2
    obtain ⟨a, b⟩ := words_split (fun x hx => hF x (List.mem_cons_of_mem _ hx)) (fun x hx => hG x (List.mem_cons_of_mem _ hx)) hX hY e2
    rw [e1, a]
    exact ⟨rfl, b⟩
def Small (ns : List Int) : Prop := ∀ n ∈ ns, 0 ≤ n ∧ n < 10 ^ 9
theorem front_free {few : List Int} : ∀ a ∈ frontW few, 32 ∉ TL.tl a := by
  unfold frontW
  split
  · intro a ha
    rw [List.mem_singleton] at ha
    subst ha
    decide
  · intro a ha
    obtain ⟨n, _, rfl⟩ := List.mem_map.mp ha
    exact nS_free n
theorem tail_free {e p : Int} {rests : List Int} : ∀ a ∈ tailW e p rests, 32 ∉ TL.tl a := by
  unfold tailW
  split
  · intro a ha
    cases ha
  · intro a ha
    rcases List.mem_cons.mp ha with rfl | ha
    · decide
    rcases List.mem_cons.mp ha with rfl | ha
    · exact nS_free e
    rcases List.mem_cons.mp ha with rfl | ha
    · decide
    rcases List.mem_cons.mp ha with rfl | ha
    · rw [TL.tl_append]
      intro h
      rcases List.mem_append.mp h with h | h
      · exact nS_free p h
      · revert h
        decide
    · obtain ⟨n, _, rfl⟩ := List.mem_map.mp ha
      exact nS_free n
theorem front_not {few : List Int} (h : Small few) : ∀ a ∈ frontW few, a ≠ Str.ofString "from" := by
  unfold frontW
  split
  · intro a ha
    rw [List.mem_singleton] at ha
    subst ha
    decide
  · intro a ha
    obtain ⟨n, hn, rfl⟩ := List.mem_map.mp ha
    exact nS_not (h n hn).1 (h n hn).2 (by decide +kernel)
theorem tail_head {e p : Int} {rests : List Int} : tailW e p rests = [] ∨ ∃ t, tailW e p rests = Str.ofString "from" :: t := by
  unfold tailW
  split
  · exact .inl rfl
  · exact .inr ⟨_, rfl⟩
theorem front_inj {a b : List Int} (ha : Small a) (hb : Small b) (e : frontW a = frontW b) : a = b := by
  unfold frontW at e
  by_cases h1 : a = []
  · by_cases h2 : b = []
    · rw [h1, h2]
    · rw [if_pos h1, if_neg h2] at e
      obtain ⟨n, t, rfl⟩ := List.exists_cons_of_ne_nil h2
      rw [List.map_cons] at e
      injection e with e1 _
      exact absurd e1.symm (nS_not (hb n List.mem_cons_self).1 (hb n List.mem_cons_self).2 (by decide +kernel))
  · by_cases h2 : b = []
    · rw [if_pos h2, if_neg h1] at e
      obtain ⟨n, t, rfl⟩ := List.exists_cons_of_ne_nil h1
      rw [List.map_cons] at e
      injection e with e1 _
      exact absurd e1 (nS_not (ha n List.mem_cons_self).1 (ha n List.mem_cons_self).2 (by decide +kernel))
    · rw [if_neg h1, if_neg h2] at e
      exact nS_map_inj ha hb e
/-- what a calendar's text tells -/
theorem calText_inj {f1 f2 r1 r2 : List Int} {e1 e2 p1 p2 : Int} (hf1 : Small f1) (hf2 : Small f2) (hr1 : Small r1) (hr2 : Small r2) (he1 : 0 ≤ e1 ∧ e1 < 10 ^ 9) (he2 : 0 ≤ e2 ∧ e2 < 10 ^ 9) (hp1 : 0 ≤ p1 ∧ p1 < 10 ^ 9) (hp2 : 0 ≤ p2 ∧ p2 < 10 ^ 9)
    (h : calText f1 e1 p1 r1 = calText f2 e2 p2 r2) : f1 = f2 ∧ r1 = r2 ∧ (r1 ≠ [] → e1 = e2 ∧ p1 = p2) := by
  rw [calText_join, calText_join, ← TL.join_eq, ← TL.join_eq] at h
  have sp : ∀ {f r : List Int} {e p : Int}, Txt.split (Txt.join blank (frontW f ++ tailW e p r)) blank = frontW f ++ tailW e p r := fun {f r e p} =>
    TL.split_join (s := 32) (S := []) (by decide) (by decide +kernel) (fun z => frontW_ne (List.append_eq_nil_iff.mp z).1) fun a ha => by
      rcases List.mem_append.mp ha with ha | ha
      · exact front_free a ha
      · exact tail_free a ha
  have hw : Txt.split _ blank = Txt.split _ blank := congrArg (fun z => Txt.split z blank) h
  rw [sp, sp] at hw
  obtain ⟨a, b⟩ := words_split (front_not hf1) (front_not hf2) tail_head tail_head hw
  refine ⟨front_inj hf1 hf2 a, ?_⟩
  unfold tailW at b
  by_cases h1 : r1 = []
  · by_cases h2 : r2 = []
    · rw [h1, h2]
      exact ⟨rfl, fun z => absurd rfl z⟩
    · rw [if_pos h1, if_neg h2] at b
      cases b
  · by_cases h2 : r2 = []
    · rw [if_neg h1, if_pos h2] at b
      cases b
    · rw [if_neg h1, if_neg h2] at b
      injection b with _ b
      injection b with b1 b
      injection b with _ b
      injection b with b2 b
      have b3 : nS p1 = nS p2 := by
        have := congrArg TL.tl b2
        rw [TL.tl_append, TL.tl_append] at this
        exact TL.ext_tl (List.append_cancel_right this)
      exact ⟨nS_map_inj hr1 hr2 b, fun _ => ⟨nS_inj he1.1 he1.2 he2.1 he2.2 b1, nS_inj hp1.1 hp1.2 hp2.1 hp2.2 b3⟩⟩
theorem sum_len {ns : List Int} (h : Small ns) : ((ns.map nS).map (·.length)).sum ≤ 10 * ns.length := by
  induction ns with
  | nil => simp
  | cons n ns ih =>
    have a := nS_len (h n List.mem_cons_self).1 (h n List.mem_cons_self).2
    have b := ih fun x hx => h x (List.mem_cons_of_mem _ hx)
    simp only [List.map_cons, List.sum_cons, List.length_cons] at b ⊢
    omega
theorem spaced_len {ns : List Int} (h : Small ns) : (spaced ns).length ≤ 11 * ns.length := by
  unfold spaced
  rw [TL.join_eq]
  induction ns with
  | nil => exact Nat.le_refl _
  | cons n ns ih =>
    have a := nS_len (h n List.mem_cons_self).1 (h n List.mem_cons_self).2
    have b := ih fun x hx => h x (List.mem_cons_of_mem _ hx)
    cases ns with
    | nil =>
      show (nS n).length ≤ _
      simp only [List.length_cons, List.length_nil]
      omega
    | cons m ns =>
      show (nS n ++ blank ++ Str.join blank (nS m :: ns.map nS)).length ≤ _
      rw [Str.length_append, Str.length_append]
      have c : blank.length = 1 := by decide
      have d : (Str.join blank (nS m :: ns.map nS)).length ≤ 11 * (m :: ns).length := b
      simp only [List.length_cons] at d ⊢
      omega
/-- a value, with the heap only grown -/
theorem val_same {te : TE} {v : V} {σ : L2.St} {H : Hp} {Q : VK} (h : ∀ R : VK, (∀ H', Same H H' → R v H') → te σ H R) (k : ∀ H', Same H H' → Q v H') : te σ H Q := h Q k
/-- [e for n in t] over a tuple of ints -/
theorem lmapT {K : PySem.W.Frag} {a : Addr} {ns : List Int} {te el : TE} {sl : Nat} {σ : L2.St} {H : Hp} {Q : VK} (f : Int → V) (hte : ∀ R : VK, R (.ref a) H → te σ H R) (hS : SqT K H a (ns.map V.int)) (ln : ns.length ≤ 3000)
    (hel : ∀ n ∈ ns, ∀ (Hc : Hp) (R : VK), Same H Hc → R (f n) Hc → el ((wipe σ [sl]).set sl (some (.int n))) Hc R)
    (k : ∀ D H', H D = none → Same H H' → H' D = some (.lst (ns.map f)) → Q (.ref D) H') : tLc (iTup K te) (gName sl) tYes el [sl] σ H Q := by
  refine hte _ ⟨a, rfl, ⟨_, hS⟩, fun D hD => lc_it walk_tup (fun i Hc => Hc D = some (.lst ((ns.take i).map f)) ∧ Same H Hc) ⟨upd_same, same_new hD⟩ (fun i Hc _ hR => (Fz.of_same hR.2).sqT hS) (fun j x Hc H' hj hR hy => ?_) (fun Hc hR => ?_)⟩
  · obtain ⟨rfl, hx⟩ := hy
    obtain ⟨hDc, sc⟩ := hR
    rw [List.getElem?_map] at hx
    obtain ⟨n, hn, rfl⟩ := Option.map_eq_some_iff.mp hx
    refine ⟨by simp [wipe, List.set_set], ?_⟩
    dsimp only [tYes]
    rw [if_pos rfl]
    refine hel n (List.mem_of_getElem? hn) _ _ sc ⟨_, hDc, ?_, ?_, same_lst sc hD⟩
    · rw [List.length_map, List.length_take]
      exact szL2 (by omega)
    · rw [upd_same, take_snoc hn, List.map_append]
      rfl
  · rw [List.length_map, List.take_length] at hR
    exact k D Hc hD hR.2 hR.1
end Rs
/-! f"{n:+d}" -/
namespace Rs
open PySem PySem.Spec PyProof.Rows L2
/-- the text of n with its sign -/
def plusS (n : Int) : Str := if n < 0 then nS n else Str.ofString "+" ++ nS n
theorem signs_neg {n : Int} (h : n < 0) : TL.tl (nS n) = 45 :: (Nat.toDigits 10 n.natAbs).map Char.toNat := by
  obtain ⟨m, rfl⟩ : ∃ m : Nat, n = Int.negSucc m := ⟨(-n - 1).toNat, by omega⟩
  unfold nS
  rw [TL.tl_ofString]
  show ("-" ++ Nat.repr (m + 1)).toList.map Char.toNat = _
  rw [String.toList_append, List.map_append, Nat.toList_repr]
  rfl
theorem signs_pos {n : Int} (h : 0 ≤ n) : TL.tl (nS n) = (Nat.toDigits 10 n.natAbs).map Char.toNat := by
  obtain ⟨m, rfl⟩ := Int.eq_ofNat_of_zero_le h
  exact PySem.W.KIN.signs_num m
theorem digits_ne {m : Nat} : (Nat.toDigits 10 m).map Char.toNat ≠ [] := by
  intro h
  have := List.map_eq_nil_iff.mp h
  have l := Nat.toDigits_ne_nil (n := m) (b := 10)
  exact l this
theorem map_plain {l : List Char} : (l.map fun c => (if ((100 : Nat) == 88) = true then c.toUpper else c).toNat) = l.map Char.toNat := rfl
theorem plus_text {n : Int} : PyProof.Rows.intField' { align := 62, sign := some 43, type := some 100 } (decide (n < 0)) [] ((Nat.toDigits 10 n.natAbs).map fun c => (if ((100 : Nat) == 88) = true then c.toUpper else c).toNat) [] 3 = plusS n := by
  refine TL.ext_tl ?_
  rw [map_plain]
  have ne := @digits_ne n.natAbs
  unfold plusS
  by_cases h : n < 0
  · rw [if_pos h, signs_neg h]
    rw [decide_eq_true h]
    generalize (Nat.toDigits 10 n.natAbs).map Char.toNat = ds at ne
    unfold PyProof.Rows.intField'
    cases ds with
    | nil => exact absurd rfl ne
    | cons d ds =>
      simp [TL.tl]
      omega
  · rw [if_neg h, TL.tl_append, signs_pos (by omega)]
    rw [decide_eq_false h]
    generalize (Nat.toDigits 10 n.natAbs).map Char.toNat = ds at ne
    unfold PyProof.Rows.intField'
    cases ds with
    | nil => exact absurd rfl ne
    | cons d ds =>
      simp [TL.tl]
      have z : (-2 - ((ds.length : Int) + 1)).toNat = 0 := by omega
      rw [z, show (Str.ofString "+").cps.toList = [43] by decide]
      rfl
theorem plus_len {n : Int} (h : n.natAbs < 10 ^ 18) : (plusS n).length ≤ 20 := by
  have e := PySem.int_text_length_le10 (a := n) (k := 18) (by decide) h
  have l : (nS n).length ≤ 19 := by
    unfold nS
    rw [PySem.ofString_length]
    omega
  unfold plusS
  split
  · omega
  · rw [Str.length_append]
    have : (Str.ofString "+").length = 1 := by decide
    omega
theorem log_small {n : Int} (h : n.natAbs < 10 ^ 18) : n.natAbs.log2 < 1920 := by
  by_cases z : n.natAbs = 0
  · rw [z]; decide
  · refine (Nat.log2_lt z).mpr (Nat.lt_of_lt_of_le h ?_)
    exact Nat.le_trans (show 10 ^ 18 ≤ 2 ^ 64 by decide) (Nat.pow_le_pow_right (by decide) (by decide))
theorem ret_text2 {M : Model} {A : Around} {E : Value → Shared → Prop} {s : Shared} {X T : Str} {Q : PySem.Fin → Shared → Prop} (hl : T.length ≤ sizeLine) (e : X = T) (h : ∀ t k, Q (.done (.ret (.str T t))) { s with toks := k }) : wpAny M A (retStr X) Q E s := PySem.W.KXf.ret_text e (by rw [e]; exact hl) h
theorem fmt_tree {n : Int} {t u : Tok} (h : n.natAbs < 10 ^ 18) : Meets (Builtin.«int.__format__» ⟨[.int n t, .str (Str.ofString "+d") u], []⟩) (fun _ R s => ∀ t' k, R (.ok (.ret (.str (plusS n) t'))) { s with toks := k }) := by
  apply PySem.W.KPc.meets_of
  intro prog w A s Q E hq
  have hl : (plusS n).length ≤ sizeLine := Nat.le_trans (plus_len h) (by rw [sizeLine_eq]; decide)
  have hlog := log_small h
  unfold Builtin.«int.__format__»
  repeat (first
    | (with_reducible refine ret_text2 (T := plusS n) hl ?_ hq)
    | (refine wpAny_bind (wpAny_of_eq (overDigitLimit_small (log_small h)) ?_))
    | wp_step)
  conv =>
    lhs
    arg 1
    change ({ align := 62, sign := some 43, type := some 100 } : PySem.Builtin.Float.FormatSpec)
  conv =>
    lhs
    arg 3
    change ([] : List Nat)
  conv =>
    lhs
    arg 4
    change ((Nat.toDigits 10 n.natAbs).map fun c => (if ((100 : Nat) == 88) = true then c.toUpper else c).toNat)
  conv =>
    lhs
    arg 6
    change 3
  exact plus_text
/-- {e:+d} -/
def tFmtPlus (te : TE) : TE := fun σ H Q => te σ H fun x H1 => ∃ i : Int, x = .int i ∧ i.natAbs < 10 ^ 18 ∧ Q (.str (plusS i)) H1
theorem pe_fmtPlus {X : Cx} {e spec : Expr} {te : TE} {pos : Pos} (he : PE X e te) (hs : PE X spec (tC (.str (Str.ofString "+d")))) : PE X (.FormattedValue e (-1) (some spec) pos) (tFmtPlus te) := by
  refine ⟨fun pins s σ H Q I h => ?_⟩
  refine wpAny_FormattedValue_spec (thn (he.run pins s σ H _ I h) fun v s1 hv => ?_)
  obtain ⟨x, H1, I1, r1, i, rfl, hz, q⟩ := hv
  obtain ⟨t, rfl⟩ := r1
  refine thn (hs.run pins s1 σ H1 (fun y H2 => y = .str (Str.ofString "+d") ∧ H2 = H1) I1 ⟨rfl, rfl⟩) fun r s2 hr => ?_
  obtain ⟨y, H2, I2, r2, rfl, rfl⟩ := hr
  obtain ⟨u, rfl⟩ := r2
  refine ⟨_, u, rfl, ?_⟩
  exact PySem.W.KXf.field_int rfl (by decide +kernel) (by decide +kernel) (fun u => fmt_tree hz) fun t' k => ⟨.str (plusS i), H2, I2.tok k, ⟨t', rfl⟩, q⟩
end Rs
/-! {o} in an f-string, o of a class with its own __str__ -/
namespace Rs
open PySem PySem.Spec PyProof.Rows L2
structure FmtO (K : PySem.W.Frag) (C : Addr) : Prop where
  fmt : PySem.W.findIn K (.ref C) "__format__" = some (some (.builtin "object.__format__"))
  obj : PySem.W.mroIn K C (.type "object") = some true
section
variable {X : Cx} {CX : CXT} {C g : Addr} {n : Nat} {sp : Sp} {E : XK}
def tFmtO (C : Addr) (sp : Sp) (E : XK) (te : TE) : TE := fun σ H Q => te σ H fun x H1 => ∃ a dx fs, x = .ref a ∧ H1 a = some (.ins C dx fs) ∧ sp [.ref a] H1 (fun z H' => ∃ y, z = .str y ∧ Q (.str y) H') E
theorem pe_fmtO {e : Expr} {te : TE} {pos : Pos} (he : PE X e te) (O : FmtO X.K C) (M : Meth X.K C "__str__" g) (F : FnR X.prog X.w X.K X.mg X.base CX n g sp) (hr : Room (n + 1) X.A) (hx : Passes CX X E) : PE X (.FormattedValue e (-1) none pos) (tFmtO C sp E te) := by
  refine ⟨fun pins s σ H Q I h => ?_⟩
  refine wpAny_FormattedValue_plain (thn (he.run pins s σ H _ I h) fun v s1 hv => ?_)
  obtain ⟨x, H1, I1, r1, a, dx, fs, rfl, ha, q⟩ := hv
  cases (show v = Value.ref a from r1)
  obtain ⟨ox, od, J⟩ := ins_at I1 ha
  have hr1 : Room n X.A.in1 := Room.in1 hr
  refine PySem.W.kfo_fieldS (by have := hr1.un; omega) I1.kIn J O.fmt O.obj M.at_ M.fn ?_
  refine wpAny_mono (wpAny_call (SlX.run_at (us := [.ref a]) (ws := [.ref a]) F hr1 (I1.tok (s1.toks + 1)).env0.in1 hx (I1.tok (s1.toks + 1)) (.cons rfl .nil) q)) (fun w s' z => ?_) fun _ _ x => x
  obtain ⟨z', H', I', rz, y, ez, qz⟩ := z
  subst ez
  obtain ⟨t, rfl⟩ := rz
  exact ⟨.str y, H', I', ⟨t, rfl⟩, qz⟩
end
end Rs
/-! comprehensions within comprehensions -/
namespace Rs
open PySem PySem.Spec PyProof.Rows L2
def relabelS (scope sc : Scope) : Scope :=
  { scope with names := scope.names.map fun (n, k) => if (k == .free && sc.kind == .function && sc.names.lookup n == some .cell) then (n, .cell) else (n, k) }
theorem relabel_eq (scope : Scope) (env : Env) : relabel scope env = relabelS scope env.scope := rfl
theorem pi_tupK {X : Cx} {K : PySem.W.Frag} {tg l : Expr} {tl : TE} (e : X.K = K) (hl : PE X l tl) : PI X tg l (iTup K tl) := by
  subst e
  exact pi_tup hl
theorem pi_listK {X : Cx} {K : PySem.W.Frag} {tg l : Expr} {tl : TE} (e : X.K = K) (hl : PE X l tl) : PI X tg l (iList K tl) := by
  subst e
  exact pi_list hl
/-- [n for n in range(hi) if t], where the test may make new objects -/
theorem lcondH {targ : TA} {tt : TT} {sl : Nat} {σ : L2.St} {H : Hp} {Q : VK} {hi : Int} (f : Int → Bool) (b3 : -1000 ≤ hi) (b4 : hi ≤ 3000) (harg : ∀ R : List V → Hp → Prop, R [.int hi] H → targ σ H R) (hl : sl < σ.length)
    (htt : ∀ n Hc (R : Bool → Hp → Prop), 0 ≤ n → n < hi → Same H Hc → (∀ Hd, Same Hc Hd → R (f n) Hd) → tt ((wipe σ [sl]).set sl (some (.int n))) Hc R)
    (k : ∀ D H', H D = none → Same H H' → H' D = some (.lst ((((List.range hi.toNat).map fun i : Nat => (i : Int)).filter f).map V.int)) → Q (.ref D) H') : tLc (iRng1 targ) (gName sl) tt (tVar sl) [sl] σ H Q := by
  refine harg _ ⟨hi, rfl, by omega, by omega, fun D hD => ?_⟩
  refine lc_range (lo := 0) (fun i Hc => Hc D = some (.lst ((((List.range i).map fun i : Nat => (i : Int)).filter f).map V.int)) ∧ Same H Hc) ⟨upd_same, same_new hD⟩ (fun i Hc hi' hP => ?_) (fun Hc hP => ?_)
  · obtain ⟨hDc, sc⟩ := hP
    rw [Int.zero_add]
    refine ⟨by simp [wipe, List.set_set], htt _ _ _ (by omega) (by omega) sc fun Hd sd => ?_⟩
    have z : ((List.range (i + 1)).map fun i : Nat => (i : Int)).filter f = ((List.range i).map fun i : Nat => (i : Int)).filter f ++ (if f (i : Int) = true then [(i : Int)] else []) := by
      rw [range_succ_map, List.filter_append, List.filter_cons, List.filter_nil]
    refine ifB (fun g => ?_) (fun g => ?_)
    · rw [if_pos g] at z
      refine ⟨.int (i : Nat), by simp [wipe, List.getElem?_set, hl], _, sd _ _ hDc, ?_, ?_, same_lst (sc.trans sd) hD⟩
      · rw [List.length_map]
        have := List.length_filter_le f ((List.range i).map fun i : Nat => (i : Int))
        rw [List.length_map, List.length_range] at this
        exact szL2 (by omega)
      · rw [upd_same, z, List.map_append]
        rfl
    · rw [if_neg (by rw [g]; exact Bool.false_ne_true), List.append_nil] at z
      rw [z]
      exact ⟨sd _ _ hDc, sc.trans sd⟩
  · exact k D Hc hD hP.2 hP.1
/-- [e for x in L if t], t never true -/
theorem lnone {K : PySem.W.Frag} {L : Addr} {xs : List V} {te el : TE} {tt : TT} {sl : Nat} {σ : L2.St} {H : Hp} {Q : VK} (hte : ∀ R : VK, (∀ H1, Same H H1 → H1 L = some (.lst xs) → R (.ref L) H1) → te σ H R)
    (htt : ∀ x ∈ xs, ∀ (Hc : Hp) (R : Bool → Hp → Prop), Same H Hc → (∀ Hd, Same Hc Hd → R false Hd) → tt ((wipe σ [sl]).set sl (some x)) Hc R)
    (k : ∀ D H', H D = none → Same H H' → H' D = some (.lst []) → Q (.ref D) H') : tLc (iList K te) (gName sl) tt el [sl] σ H Q := by
  refine hte _ fun H1 s1 hL => ⟨L, rfl, ⟨_, SqL.of hL⟩, fun D hD => lc_it walk_list (fun i Hc => Hc D = some (.lst []) ∧ Same H1 Hc) ⟨upd_same, same_new hD⟩ (fun i Hc _ hR => hR.2.seq (SqL.of hL)) (fun j x Hc H' hj hR hy => ?_) (fun Hc hR => ?_)⟩
  · obtain ⟨rfl, hx⟩ := hy
    obtain ⟨hDc, sc⟩ := hR
    exact ⟨by simp [wipe, List.set_set], htt x (List.mem_of_getElem? hx) _ _ (s1.trans sc) fun Hd sd => ifF rfl ⟨sd _ _ hDc, sc.trans sd⟩⟩
  · exact k D Hc (s1.free hD) (s1.trans hR.2) hR.1
/-- a statement that goes on in several ways, all of which hold C -/
theorem seq_k {t rest : TS} {D : Ends} {σ : L2.St} {H : Hp} (C : L2.St → Hp → Prop) (k : ∀ σ' H', C σ' H' → rest D σ' H') (h : ∀ R : L2.St → Hp → Prop, (∀ σ' H', C σ' H' → R σ' H') → t { D with nx := R } σ H) : tSeq t rest D σ H := h _ k
end Rs
/-! A def's promise at one stand of the machine (what runs around it known), so that repr of lists and tuples can be told. -/
namespace Rs
open PySem PySem.Spec PyProof.Rows L2
/-- the promise of the def at f, called where A runs around -/
structure At (A : Around) (P : Program) (w : World) (K : PySem.W.Frag) (mg : Str → Option Value) (base : Heap) (CX : CXT) (k : Nat) (f : Addr) (ps : List Str) (fd : FuncData) (sp : Sp) : Prop where
  len : ∀ vs H Q E, sp vs H Q E → vs.length = ps.length
  go : ∀ (outer : List Env) (s : Shared) (H : Hp) (args : Args) (us : List Value) (vs : List V) (Q : VK) (E : XK), Room k A → Env0 P w K mg base A outer s H → BindsTo s fd args (ps.zip us) → Vals vs us → sp vs H Q E → codeAny (model P w) A (.call (.ref f) args) (CR CX outer P w H s Q E) s
section
variable {P : Program} {w : World} {K : PySem.W.Frag} {mg : Str → Option Value} {base : Heap}
theorem fun_at {A : Around} {x qual : Str} {st : Stmt} {f : Addr} {fd : FuncData} {N ps : List Str} {k : Nat} {CX : CXT} {sp : Sp} (F : Fun K x qual st f fd) (S : FnScope N ps (defScope st)) (len : ∀ vs H Q E, sp vs H Q E → vs.length = ps.length)
    (body : ∀ (cdv : Value) (outer : List Env) (s : Shared) (H : Hp) (vs : List V) (Q : VK) (E : XK), Room k (A.deeper (envOfC qual (defScope st) s.heap.objs.size f cdv)) → sp vs H Q E →
      ∃ t, PSs (cxOf CX P w K mg base N qual (defScope st) f cdv A outer s H E) (defBody st) t ∧ t { nx := fun _ H' => Q .non H', rt := Q } (start N vs) H) : At A P w K mg base CX (k + 1) f ps fd sp := by
  obtain ⟨oc, od, kV, doc, pm, an, cdv, ct, osl, rfl, lk, code⟩ := F.ex
  refine ⟨len, fun outer s H args us vs Q E room st0 bind rel pre => ?_⟩
  have nargs := len vs H Q E pre
  have inK : K.In s.heap := st0.mod.kin.keeps fun b o hb => (st0.bs b o hb).1
  have free : s.heap.NoLimit := st0.mod.nolimit.keeps fun b o hb => (st0.bs b o hb).1
  refine codeAny_call_function room.depth (inK _ _ lk) rfl S.co S.gen rfl (PySem.W.codeRec_of inK code) (bind _ _ _ _ ?_)
  have kinds : ∀ y ∈ ps.zip us, (defScope st).names.lookup y.1 = some .local ∨ ((defScope st).names.lookup y.1 = some .cell ∧ ((cellsFrom (s.heap.objs.size + 1) (defScope st).names []).lookup y.1).isSome = true) := by
    rintro ⟨n, v⟩ mem
    exact (S.par n (List.of_mem_zip mem).1).elim .inl fun q => .inr ⟨q, PySem.W.cellsFrom_some _ _ _ (.inl q)⟩
  refine wpAny_newFunctionEnv_cells S.kind kinds fun env eq s1 x => ?_
  subst eq
  refine ⟨free.keeps x.toInCall.keep, codeAny_func ?_⟩
  obtain ⟨t, der, rd⟩ := body cdv outer s H vs Q E (room.deeper _) pre
  have inv0 := inv_start (CX := CX) (E := E) S room.hd st0 nargs rel x
  refine wpAny_mono (der.run [] s1 (start N vs) H _ inv0 rd) (fun way s' out => ?_) fun e s' out => out
  cases way with
  | brk => obtain ⟨_, _, _, no⟩ := out; exact no.elim
  | cont => obtain ⟨_, _, _, no⟩ := out; exact no.elim
  | ret u =>
    obtain ⟨v, σ', H', J, rv, q⟩ := out
    exact (⟨v, H', J.os, J.bare, J.base, J.hok, rv, q⟩ : CE outer P w H s Q u s')
  | next =>
    obtain ⟨σ', H', J, q⟩ := out
    exact (⟨V.non, H', J.os, J.bare, J.base, J.hok, rfl, q⟩ : CE outer P w H s Q Value.none s')
end
/-! f(e, ..), its promise told where the body of the caller stands -/
section
variable {X : Cx} {CX : CXT} {k : Nat} {f : Addr} {fd : FuncData} {ps : List Str} {sp : Sp} {E : XK}
theorem pe_callAt {x : Str} {p pos : Pos} {e : Expr} {es : List Expr} {t : TA} (F : At X.A X.prog X.w X.K X.mg X.base CX k f ps fd sp) (hr : Room k X.A) (hg : Gl X x) (hm : X.mg x = some (.ref f)) (hk : PySem.W.keepIn X.K (.ref f) = true) (hb : Binds X.K fd ps []) (hx : Passes CX X E)
    (ha : PA X (e :: es) t) (hdb : (x == ("__debug__" : Str)) = false := by decide) (he : starEach (e :: es) X.env = (false, eval e X.env) :: starEach es X.env := by rfl) (hpl : (backTo pos (starEach es X.env)).any (·.1) = false := by rfl) :
    PE X (.Call (.Name x p) (e :: es) [] pos) (tCall sp [] E t) := by
  refine ⟨fun pins s σ H Q I h => wpAny_Call_Name_kw (ld_glob I hg hm ?_ hdb)⟩
  refine PySem.W.callWith_K (h₀ := X.base) I.ok.mod.kin hk (thn (ha.run pos pins s σ H _ I h) fun us s1 res => ?_) he hpl
  obtain ⟨vs, H1, I1, rel, pre⟩ := res
  rw [List.append_nil] at pre
  have n1 := F.len _ _ _ _ pre
  have n2 : (us ++ []).length = ps.length := by rw [List.append_nil, ← rel.length]; exact n1
  have bd := hb s1 us I1.kIn n2
  rw [List.append_nil] at bd
  refine ⟨I1.kIn, wpAny_call (codeAny_mono (F.go X.stack s1 H1 ⟨us, []⟩ us vs Q E hr I1.env0 bd rel pre) fun r s' out => ?_)⟩
  cases r with
  | error e => exact hx pins σ H1 s1 e s' I1 out
  | ok fl =>
    cases fl with
    | ret u => exact I1.after out
    | next => exact out.elim
    | brk => exact out.elim
    | cont => exact out.elim
end
/-! ### the law's own call -/
/-- what is tracked at the law's call: the script alone, if the top does not hold it -/
def scriptH (K : PySem.W.Frag) (a : Addr) (vs : List Value) (ns : List Int) : Hp := fun b =>
  if b = a ∧ K.lookup a = none then some (.frz { cls := .type "list", data := .seq vs.toArray } (.lst (ns.map V.int))) else none
theorem scriptH_some {K : PySem.W.Frag} {a : Addr} {vs : List Value} {ns : List Int} {b : Addr} {u : HO} (h : scriptH K a vs ns b = some u) : b = a ∧ K.lookup a = none ∧ u = .frz { cls := .type "list", data := .seq vs.toArray } (.lst (ns.map V.int)) := by
  unfold scriptH at h
  by_cases c : b = a ∧ K.lookup a = none
  · rw [if_pos c] at h
    exact ⟨c.1, c.2, (Option.some.inj h).symm⟩
  · rw [if_neg c] at h
    cases h
theorem law_at {P : Program} {w : World} {K : PySem.W.Frag} {mg mb : Str → Option Value} {k : Nat} {fa a : Addr} {fd : FuncData} {x : Str} {sp : Sp} {s₁ : Shared} {vs : List Value} {ns : List Int}
    (inK : K.In s₁.heap) (glb : s₁.heap.Ns mainGlobals mg) (blt : s₁.heap.Ns builtinsNs mb) (blt2 : ∀ x : Str, x ≠ "__name__" → mb x = bootBuiltins x) (free : s₁.heap.NoLimit) (nogen : s₁.gens = #[])
    (obj : s₁.heap.get? a = some { cls := .type "list", data := .seq vs.toArray }) (nums : IntsAre vs ns) (small : ns.length ≤ sizeLine) (room : Room k callerA)
    (F : ∀ base : Heap, K.In base → base.Ns mainGlobals mg → At callerA P w K mg base CX0 k fa [x] fd sp) (bind : ∀ (s : Shared) (u : Value), BindsTo s fd ⟨[u], []⟩ [(x, u)])
    (pre : ∀ H : Hp, SqL K H a (ns.map V.int) → sp [.ref a] H (fun v _ => v = .bl true) fun _ _ _ => False) :
    codeAny (model P w) callerA (.call (.ref fa) ⟨[.ref a], []⟩) (fun r s' => r = .ok (.ret (.bool true)) ∧ OldK s₁.heap s'.heap ∧ s'.os = s₁.os ∧ AllBare s'.gens) s₁ := by
  have rel := vals_ints nums
  have len := nums.length
  have ok : HOk P w (scriptH K a vs ns) s₁.heap := fun b u hb => by
    obtain ⟨rfl, _, rfl⟩ := scriptH_some hb
    exact ⟨obj, by rw [List.length_map]; exact small, vs, _, rel, obj⟩
  have seen : SqL K (scriptH K a vs ns) a (ns.map V.int) := by
    cases c : K.lookup a with
    | none => exact .inl (.inr ⟨_, if_pos ⟨rfl, c⟩⟩)
    | some o =>
      have q := inK a o c
      rw [obj] at q
      cases q
      exact .inr ⟨_, vs.toArray, _, c, rfl, rfl, rfl, by rw [List.size_toArray, len]; exact small, by simpa using rel⟩
  have hid : ∀ {b : Addr} {o : Obj}, s₁.heap.get? b = some o → scriptH K a vs ns b = none → (hidT s₁.heap (scriptH K a vs ns)).get? b = some o := fun e n => hidT_get e n
  have none_of : ∀ {b : Addr} {o : Obj}, s₁.heap.get? b = some o → (b = a → K.lookup a = none → False) → scriptH K a vs ns b = none := fun {b o} _ no => by
    cases q : scriptH K a vs ns b with
    | none => rfl
    | some u =>
      obtain ⟨h1, h2, _⟩ := scriptH_some q
      exact (no h1 h2).elim
  have nsH : ∀ {b : Addr} {m : Str → Option Value}, s₁.heap.Ns b m → (hidT s₁.heap (scriptH K a vs ns)).Ns b m := fun {b m} n => by
    obtain ⟨o, es, ep, e, d, r⟩ := n
    refine ⟨o, es, ep, hid e (none_of e fun h1 _ => ?_), d, r⟩
    subst h1
    rw [obj] at e
    cases e
    have d' : Data.seq vs.toArray _ = Data.dict es ep := d
    cases d'
  have kH : K.In (hidT s₁.heap (scriptH K a vs ns)) := fun b o e => hid (inK b o e) (none_of (inK b o e) fun h1 h2 => by
    subst h1
    rw [h2] at e
    cases e)
  have mod : Mod K mg (hidT s₁.heap (scriptH K a vs ns)) := ⟨kH, nsH glb, ⟨mb, nsH blt, blt2⟩, let ⟨c, h1, h2⟩ := free; ⟨c, nsH h1, h2⟩⟩
  have st0 : Env0 P w K mg (hidT s₁.heap (scriptH K a vs ns)) callerA [] s₁ (scriptH K a vs ns) :=
    ⟨rfl, mod, fun b o e => of_hidT e, Nat.le_of_eq (hidT_size _ _), trivial, fun b hb => absurd (show b ∈ ([] : List Addr) from hb) List.not_mem_nil, ok, .of_eq nogen⟩
  refine codeAny_mono ((F _ kH (nsH glb)).go [] s₁ (scriptH K a vs ns) ⟨[.ref a], []⟩ [.ref a] [.ref a] _ _ room st0 (bind s₁ (.ref a)) (.cons rfl .nil) (pre _ seen)) fun r s' out => ?_
  cases r with
  | error e => exact out.elim
  | ok fl =>
    cases fl with
    | next => exact out.elim
    | brk => exact out.elim
    | cont => exact out.elim
    | ret u =>
      obtain ⟨v, H', os, bare, un, ok', rv, q⟩ := out
      obtain rfl : v = .bl true := q
      obtain rfl : u = Value.bool true := rv
      refine ⟨rfl, OldK.of_keep fun b o e => ?_, os, bare⟩
      cases c : scriptH K a vs ns b with
      | none => exact un.keep b o e c (fun z => absurd (show b ∈ ([] : List Addr) from z) List.not_mem_nil) (by simp)
      | some u =>
        obtain ⟨_, _, rfl⟩ := scriptH_some c
        obtain ⟨e1, _⟩ := ok b _ c
        obtain ⟨e2, _⟩ := ok' b _ (un.frzs b _ _ c)
        rw [e] at e1
        cases e1
        exact e2
theorem walk_at_of {l : PySem.W.OpenLaw} {n k : Nat} {q : Program} {loose : List Str} {XP : (Str → Option Value) → Heap → Prop} {YP : World → Heap → Prop} {d : DefRec} {K : Params → PySem.W.Frag} {sp : World → Sp} {x : Str}
    (most : l.most = some n) (small : n ≤ sizeLine) (nodef : d.params.defaults = []) (room : Room k callerA) (inK : ∀ (w : World) (h : Heap), YP w h → (K w.params).In h)
    (F : ∀ (w : World) (mg : Str → Option Value) (fa : Addr) (h : Heap), (K w.params).In h → h.Ns mainGlobals mg → mg d.name = some (.ref fa) →
      ∃ fd : FuncData, (∀ (s : Shared) (u : Value), BindsTo s fd ⟨[u], []⟩ [(x, u)]) ∧ ∀ base : Heap, (K w.params).In base → base.Ns mainGlobals mg → At callerA l.prog w (K w.params) mg base CX0 k fa [x] fd (sp w))
    (pre : ∀ (w : World) (H : Hp) (a : Addr) (ns : List Int), ns.length ≤ n → SqL (K w.params) H a (ns.map V.int) → sp w [.ref a] H (fun v _ => v = .bl true) fun _ _ _ => False) :
    PySem.W.WalkO q loose XP YP l.row.toRowW d [] (fun f vs => PySem.call f vs) :=
  Att.attach_call most nodef fun w s₀ s₁ mg mb fa o pm cd doc a vs ns G Y ho hd hcd hmg obj nums len nogen => by
    have kx := inK w _ Y
    obtain ⟨fd, bind, promise⟩ := F w mg fa _ kx G.T.g hmg
    exact law_at kx G.T.g G.T.b G.T.builtins G.T.nolimit nogen obj nums (Nat.le_trans len small) room promise bind fun H hS => pre w H a ns len hS
/-! ### repr -/
theorem guards_deeper {A : Around} {env : Env} (h : A.guards = some []) : (A.deeper env).guards = some [] := h
def rRepr (K : PySem.W.Frag) : List V → Hp → VK → Prop := fun xs H Q => ∃ v d, xs = [v] ∧ Dp K H v d ∧ d.showable = true ∧ d.hasDict = false ∧ d.depth ≤ 60 ∧ d.shown.length ≤ sizeLine ∧ Q (.str d.shown) H
theorem call_reprD {X : Cx} {k : Nat} (hr : Room k X.A) (hg : X.A.guards = some []) : CallR X (.builtin "repr") (rRepr X.K) := by
  intro pins s σ H xs us Q I r h
  obtain ⟨v, d, rfl, hd, sh, nd, dp, ln, q⟩ := h
  obtain ⟨u, rfl, ru⟩ := vals1 r
  cases hd with
  | non => obtain rfl : u = Value.none := ru; exact PySem.P.repr_of_none ⟨.str _, H, I.tok _, ⟨_, rfl⟩, q⟩
  | bl b =>
    obtain rfl : u = Value.bool b := ru
    refine PySem.P.repr_of_bool ⟨.str _, H, I.tok _, ⟨_, rfl⟩, ?_⟩
    exact q
  | int i =>
    obtain ⟨t, rfl⟩ := (show ∃ t, u = Value.int i t from ru)
    exact PySem.P.repr_of_int (by simpa [PyData.showable] using sh) ⟨.str _, H, I.tok _, ⟨_, rfl⟩, q⟩
  | str x =>
    obtain ⟨t, rfl⟩ := (show ∃ t, u = Value.str x t from ru)
    exact PySem.P.repr_of_str ⟨.str _, H, I.tok _, ⟨_, rfl⟩, q⟩ ln
  | lst h1 h2 =>
    obtain ⟨as, rd⟩ := Dp.reads I _ _ u (.lst h1 h2) ru
    cases (show u = Value.ref _ from ru)
    exact repr_of_reads' rd sh (fun z => by rw [nd] at z; cases z) hg (by have := hr.units; omega) (fun _ _ e => e) (fun h' t tk hk => ⟨.str _, H, I.kept (t' := tk) hk, ⟨_, rfl⟩, q⟩) ln
  | tup h1 h2 =>
    obtain ⟨as, rd⟩ := Dp.reads I _ _ u (.tup h1 h2) ru
    cases (show u = Value.ref _ from ru)
    exact repr_of_reads' rd sh (fun z => by rw [nd] at z; cases z) hg (by have := hr.units; omega) (fun _ _ e => e) (fun h' t tk hk => ⟨.str _, H, I.kept (t' := tk) hk, ⟨_, rfl⟩, q⟩) ln
section
variable {P : Program} {w : World} {K : PySem.W.Frag} {mg : Str → Option Value} {base : Heap}
/-- the same where nothing is let out -/
theorem fun_at0 {A : Around} {x qual : Str} {st : Stmt} {f : Addr} {fd : FuncData} {N ps : List Str} {k : Nat} {sp : Sp} (F : Fun K x qual st f fd) (S : FnScope N ps (defScope st)) (len : ∀ vs H Q E, sp vs H Q E → vs.length = ps.length)
    (body : ∀ (cdv : Value) (outer : List Env) (s : Shared) (H : Hp) (vs : List V) (Q : VK) (E : XK), Room k (A.deeper (envOfC qual (defScope st) s.heap.objs.size f cdv)) → sp vs H Q E →
      ∃ t, PSs (cxOf CX0 P w K mg base N qual (defScope st) f cdv A outer s H E).nox (defBody st) t ∧ t { nx := fun _ H' => Q .non H', rt := Q } (start N vs) H) : At A P w K mg base CX0 (k + 1) f ps fd sp :=
  fun_at F S len fun cdv outer s H vs Q E hr hsp => by
    obtain ⟨t, h, q⟩ := body cdv outer s H vs Q E hr hsp
    exact ⟨t, h.nox, q⟩
end
end Rs
/-! == of tuples whose items are compared by an own __eq__, with either answer. -/
namespace Rs
open PySem PySem.Spec PyProof.Rows L2 GQ

open MeetsSeq MeetsSeq2 MeetsSeq3 SeqRoads2
section
variable {prog : Program} {w : World} {A : Around} {R : Result → Shared → Prop}
/-- the items are looked at in turn: f i tells whether the i-th two are equal -/
theorem tuple_eqB (l b : Addr) (xs ys : Array Value) (n m : Nat) (dd de : Option Addr) (sl sm : Array (Option Value)) (f : Nat → Bool) (I : Nat → Shared → Prop)
    (turn : ∀ i (h1 : i < xs.size) (h2 : i < ys.size) s, I i s → wpAny (model prog w) A.in1 (eqBool xs[i] ys[i]) (fun r s' => r = f i ∧ I (i + 1) s') (fun e s' => R (.error e) s') s)
    (good : ∀ s, (∀ i, i < xs.size → i < ys.size → f i = true) → I (min xs.size ys.size) s → R (.ok (.ret (.bool (decide (xs.size = ys.size))))) s)
    (bad : ∀ i s, i < xs.size → i < ys.size → f i = false → I (i + 1) s → R (.ok (.ret (.bool false))) s) {s : Shared}
    (hl : s.heap.get? l = some { cls := .type "tuple", dict := dd, data := .seq xs n, slots := sl }) (hb : s.heap.get? b = some { cls := .type "tuple", dict := de, data := .seq ys m, slots := sm }) (h : I 0 s) :
    wpAny (model prog w) A.in1 (Builtin.«tuple.__eq__» ⟨[.ref l, .ref b], []⟩) (FinOf prog w A R) (fun e s' => R (.error e) s') s := by
  have sub := AutoSeq1.sub_tuple_tuple
  have len : (xs.toList.zip ys.toList).length = min xs.size ys.size := by simp
  have start := h
  obtain ⟨hp, g, d, tk, os⟩ := s
  wp_walk using AutoSeq1.wpAny_loadPart' hl, AutoSeq1.wpAny_loadPart' hb, wpAny_forIn_list _ (fun rest st s' => st.1 = none ∧ ∃ i, rest = (xs.toList.zip ys.toList).drop i ∧ i ≤ min xs.size ys.size ∧ I i s' ∧ ∀ j, j < i → f j = true) _
  case turn =>
    rintro ⟨y, x⟩ rest st s' ⟨none0, i, left, le, inv, all⟩
    have lt : i < (xs.toList.zip ys.toList).length := by
      rcases Nat.lt_or_ge i (xs.toList.zip ys.toList).length with c | c
      · exact c
      · rw [List.drop_of_length_le c] at left; cases left
    have i1 : i < xs.size := by omega
    have i2 : i < ys.size := by omega
    rw [List.drop_eq_getElem_cons lt] at left
    injection left with both more
    have ey : y = xs[i] := by have := congrArg Prod.fst both; simpa using this
    have ex : x = ys[i] := by have := congrArg Prod.snd both; simpa using this
    subst ey ex
    refine wpAny_bind (wpAny_mono (turn i i1 i2 s' inv) (fun r s2 q2 => ?_) fun _ _ x => x)
    obtain ⟨er, q2⟩ := q2
    subst er
    cases c : f i with
    | true =>
      wp_walk
      exact ⟨rfl, i + 1, more, by omega, q2, fun j hj => by
        by_cases e : j = i
        · rw [e]; exact c
        · exact all j (by omega)⟩
    | false =>
      have no := bad i s2 i1 i2 c q2
      wp_walk
      exact no
  case fin =>
    rintro ⟨b1, b2⟩ s' ⟨none0, i, left, le, inv, all⟩
    simp only at none0
    subst none0
    have ge : (xs.toList.zip ys.toList).length ≤ i := by
      rcases Nat.lt_or_ge i (xs.toList.zip ys.toList).length with c | c
      · rw [List.drop_eq_getElem_cons c] at left; cases left
      · exact c
    have e : i = min xs.size ys.size := by omega
    subst e
    have yes := good s' (fun j a b => all j (by omega)) inv
    wp_walk
    have e2 : Builtin.Tuple.tupleCompareSizes CmpOp.Eq xs.size ys.size = .bool (decide (xs.size = ys.size)) := by
      simp only [Builtin.Tuple.tupleCompareSizes]
      congr 1
    rw [e2]
    exact yes
  case h =>
    exact ⟨rfl, 0, rfl, Nat.zero_le _, start, fun j hj => by omega⟩
end
section
variable {prog : Program} {w : World} {A : Around} {E : Value → Shared → Prop} {s : Shared}
theorem rc_tupB {l b : Addr} {xs ys : Array Value} {Q : Value → Shared → Prop} (room : A.units < cLine) (f : Nat → Bool) (I : Nat → Shared → Prop) (hl : s.heap.IsTuple l xs) (hb : s.heap.IsTuple b ys)
    (turn : ∀ i (h1 : i < xs.size) (h2 : i < ys.size) s, I i s → wpAny (model prog w) A.in1 (eqBool xs[i] ys[i]) (fun r s' => r = f i ∧ I (i + 1) s') E s)
    (good : ∀ s, (∀ i, i < xs.size → i < ys.size → f i = true) → I (min xs.size ys.size) s → Q (.bool (decide (xs.size = ys.size))) s)
    (bad : ∀ i s, i < xs.size → i < ys.size → f i = false → I (i + 1) s → Q (.bool false) s) (h : I 0 s) : wpAny (model prog w) A (richCompare .Eq (.ref l) (.ref b)) Q E s := by
  obtain ⟨⟨c1, d1, t1, l1⟩, at1, k1, n1, q1⟩ := id hl
  obtain ⟨⟨c2, d2, t2, l2⟩, at2, k2, n2, q2⟩ := id hb
  simp only at k1 q1 k2 q2
  subst k1 q1 k2 q2
  refine wpAny_richCompare_same_room (op := .Eq) ⟨_, at1, rfl⟩ ⟨_, at2, rfl⟩ F.slot_tuple_eq (call_here F.slot_tuple_eq ⟨_, at1, rfl⟩ F.entry_tuple_eq (F.args_tuple_eq_2 _ _) ?_) room
  exact tuple_eqB (R := wants (fun v s' => v ≠ .notImplemented ∧ Q v s') E) l b xs ys n1 n2 d1 d2 l1 l2 f I turn (fun s' a q => ⟨(fun x => nomatch x), good s' a q⟩) (fun i s' a c e q => ⟨(fun x => nomatch x), bad i s' a c e q⟩) at1 at2 h
end
/-- two values, and whether they are equal -/
abbrev EqvB := V → V → Bool → Hp → Prop
def MonB (D : EqvB) : Prop := ∀ x y r H H', Ext H H' → D x y r H → D x y r H'
def EqB (X : Cx) (n : Nat) (D : EqvB) : Prop := ∀ (A : Around) (pins : List (Addr × Obj)) (s : Shared) (σ : L2.St) (H : Hp) (x y : V) (r : Bool) (u v : Value), Sub X n A → Inv X pins σ H s → RelV x u → RelV y v → D x y r H →
  wpAny (model X.prog X.w) A (eqBool u v) (fun q s' => q = r ∧ ∃ H', Inv X pins σ H' s' ∧ Ext H H') X.xe s
def RcB (X : Cx) (n : Nat) (D : EqvB) : Prop := ∀ (A : Around) (pins : List (Addr × Obj)) (s : Shared) (σ : L2.St) (H : Hp) (x y : V) (r : Bool) (u v : Value), Sub X n A → Inv X pins σ H s → RelV x u → RelV y v → D x y r H →
  wpAny (model X.prog X.w) A (richCompare .Eq u v) (fun q s' => q = .bool r ∧ ∃ H', Inv X pins σ H' s' ∧ Ext H H') X.xe s
/-- item by item: the i-th two are equal just if f i -/
def PrsB (D : EqvB) (xs ys : List V) (r : Bool) (H : Hp) : Prop := ∃ f : Nat → Bool, (∀ i x y, xs[i]? = some x → ys[i]? = some y → D x y (f i) H) ∧ (r = true ↔ xs.length = ys.length ∧ ∀ i, i < xs.length → i < ys.length → f i = true)
def DTupB (K : PySem.W.Frag) (D : EqvB) : EqvB := fun x y r H => ∃ a b xs ys, x = .ref a ∧ y = .ref b ∧ SqT K H a xs ∧ SqT K H b ys ∧ PrsB D xs ys r H ∧ (a = b → r = true)
theorem monB_tup {K : PySem.W.Frag} {D : EqvB} (m : MonB D) : MonB (DTupB K D) := fun x y r H H' e d => by
  obtain ⟨a, b, xs, ys, hx, hy, h1, h2, ⟨f, hf, hr⟩, own⟩ := d
  exact ⟨a, b, xs, ys, hx, hy, h1.ext e, h2.ext e, ⟨f, fun i x y a b => m _ _ _ _ _ e (hf i x y a b), hr⟩, own⟩
section
variable {X : Cx} {n : Nat} {D : EqvB}
theorem rcB_tup (m : MonB D) (h : EqB X n D) : RcB X (n + 1) (DTupB X.K D) := by
  intro A pins s σ H x y r u v sb I rx ry d
  obtain ⟨a, b, xs, ys, rfl, rfl, ha, hb, ⟨f, hf, hr⟩, _⟩ := d
  cases rx
  cases ry
  obtain ⟨its, r1, e1, _⟩ := I.tuple ha
  obtain ⟨jts, r2, e2, _⟩ := I.tuple hb
  have l1 := r1.length
  have l2 := r2.length
  refine rc_tupB sb.room.units0 f (fun _ s' => LoopI X pins σ H s') e1 e2 (fun i h1 h2 s' q => ?_) (fun s' all q => ?_) (fun i s' h1 h2 no q => ?_) ⟨H, I, Ext.rfl'⟩
  · obtain ⟨H1, I1, x1⟩ := q
    have c1 : i < its.length := by simpa using h1
    have c2 : i < jts.length := by simpa using h2
    obtain ⟨u, hu, ru⟩ := r1.get (List.getElem?_eq_getElem (show i < xs.length by omega))
    obtain ⟨v, hv, rv⟩ := r2.get (List.getElem?_eq_getElem (show i < ys.length by omega))
    have g1 : its.toArray[i] = u := by
      rw [List.getElem?_eq_getElem c1] at hu
      simpa using Option.some.inj hu
    have g2 : jts.toArray[i] = v := by
      rw [List.getElem?_eq_getElem c2] at hv
      simpa using Option.some.inj hv
    rw [g1, g2]
    refine wpAny_mono (h A.in1 pins s' σ H1 _ _ (f i) u v sb.in1 I1 ru rv (m _ _ _ _ _ x1 (hf i _ _ (List.getElem?_eq_getElem (by omega)) (List.getElem?_eq_getElem (by omega))))) (fun q s2 z => ?_) fun _ _ x => x
    obtain ⟨eq, H2, I2, x2⟩ := z
    exact ⟨eq, H2, I2, x1.trans x2⟩
  · refine ⟨?_, q⟩
    rw [List.size_toArray, List.size_toArray, ← l1, ← l2]
    congr 1
    rw [Bool.eq_iff_iff, decide_eq_true_eq, hr]
    exact ⟨fun e => ⟨e, fun i a b => all i (by simpa [← l1] using a) (by simpa [← l2] using b)⟩, fun e => e.1⟩
  · refine ⟨?_, q⟩
    congr 1
    symm
    rw [← Bool.not_eq_true, hr]
    rintro ⟨_, all⟩
    rw [all i (by simpa [← l1] using h1) (by simpa [← l2] using h2)] at no
    cases no
/-- from the comparison of references to == inside a tuple -/
theorem RcB.eqB (h : RcB X n D) (hr : ∀ x y r H, D x y r H → ∃ a b, x = .ref a ∧ y = .ref b ∧ (a = b → r = true)) : EqB X n D := by
  intro A pins s σ H x y r u v sb I rx ry d
  obtain ⟨a, b, rfl, rfl, own⟩ := hr _ _ _ _ d
  cases rx
  cases ry
  by_cases ab : a = b
  · have e := own ab
    subst ab
    subst e
    exact SeqAt.EqAt.same (A := A) (s := s) (.ref a) X.prog X.w X.xe _ ⟨rfl, H, I, Ext.rfl'⟩
  · refine eqBool_refG ab (wpAny_mono (h A pins s σ H (.ref a) (.ref b) r _ _ sb I rfl rfl d) (fun q s' z => ?_) fun _ _ x => x)
    obtain ⟨e, z⟩ := z
    exact ⟨r, e, rfl, z⟩
/-- instances of the class at C with an own ==: S tells the answer -/
def DInsB (C : Addr) (S : Addr → Addr → Bool → Hp → Prop) : EqvB := fun x y r H => ∃ a b dx dy fs gs, x = .ref a ∧ y = .ref b ∧ H a = some (.ins C dx fs) ∧ H b = some (.ins C dy gs) ∧ S a b r H ∧ (a = b → r = true)
theorem monB_ins {C : Addr} {S : Addr → Addr → Bool → Hp → Prop} (m : ∀ a b r H H', Ext H H' → S a b r H → S a b r H') : MonB (DInsB C S) := fun x y r H H' e d => by
  obtain ⟨a, b, dx, dy, fs, gs, hx, hy, h1, h2, z, own⟩ := d
  exact ⟨a, b, dx, dy, fs, gs, hx, hy, e _ _ h1, e _ _ h2, m _ _ _ _ _ e z, own⟩
theorem rcB_ins {C g : Addr} {S : Addr → Addr → Bool → Hp → Prop} {sp : Sp} (O : OwnQ X.K C g) (F : FnR X.prog X.w X.K X.mg X.base CX0 n g sp) (hx : Passes CX0 X E0)
    (ask : ∀ a b r H, S a b r H → sp [.ref a, .ref b] H (fun v H' => v = .bl r ∧ Ext H H') E0) : RcB X n (DInsB C S) := by
  intro A pins s σ H x y r u v sb I rx ry d
  obtain ⟨a, b, dx, dy, fs, gs, rfl, rfl, ha, hb, z, _⟩ := d
  cases rx
  cases ry
  obtain ⟨ox, od, J⟩ := ins_at I ha
  obtain ⟨oy, oe, Jb⟩ := ins_at I hb
  obtain ⟨m, hF⟩ := I.fr
  refine PySem.W.cmp_K (op := .Eq) (tb := .ref C) sb.room.units0 hF I.ok.mod.kin J Jb.type notFirst_self O.eq O.fn ?_
  have e0 : Env0 X.prog X.w X.K X.mg X.base A X.stack s H := by
    have e := I.env0
    exact ⟨by rw [sb.fr]; exact e.frames, e.mod, e.bs, e.bsz, e.funs, e.frf, e.hok, e.bare⟩
  refine wpAny_mono (wpAny_call (SlX.run_at (us := [.ref a, .ref b]) (ws := [.ref a, .ref b]) F sb.room e0 hx I (.cons rfl (.cons rfl .nil)) (ask a b r H z))) (fun w s' q => ?_) fun _ _ x => x
  obtain ⟨z', H', I', rz, ez, ex⟩ := q
  subst ez
  cases (show w = Value.bool r from rz)
  exact ⟨rfl, H', I', ex⟩
/-- x == y as an expression -/
def rEqB (D : EqvB) : R2 := fun x y H Q => ∃ r, D x y r H ∧ ∀ H', Ext H H' → Q (.bl r) H'
theorem op_eqB (h : RcB X n D) (hr : Room n X.A) : OpR X (compareOp .Eq) (rEqB D) := by
  intro pins s σ H x y v u Q I rx ry hq
  obtain ⟨r, d, q⟩ := hq
  show wpAny (model X.prog X.w) X.A (richCompare .Eq v u) (EP X pins σ Q) X.xe s
  refine wpAny_mono (h X.A pins s σ H x y r v u ⟨hr, rfl⟩ I rx ry d) (fun w s' z => ?_) fun _ _ x => x
  obtain ⟨e, H', I', x⟩ := z
  subst e
  exact ⟨.bl r, H', I', rfl, q H' x⟩
end
end Rs
/-! Lambdas with parameters, without captured names, handed to a def as values; the end of a law row with tables of code objects. -/
namespace Rs
open PySem PySem.Spec PyProof.Rows L2 LamX NdefX
abbrev lamFd (F : NF) (e : Expr) (pm ctv : Value) : FuncData := PySem.W.kla_fn F.name F.qual F.params e F.scope F.cl pm (.ref F.c) ctv
/-- the object at f is the lambda with the body e -/
def LamO (f : Addr) (F : NF) (e : Expr) : HO := .ext fun h => ∃ (od : Option Addr) (sl : Array (Option Value)) (pm ctv : Value), h.get? f = some (⟨.type "function", od, .func (lamFd F e pm ctv), sl⟩ : Obj)
theorem lamO_at {P : Program} {w : World} {H : Hp} {h : Heap} {f : Addr} {F : NF} {e : Expr} (hok : HOk P w H h) (z : H f = some (LamO f F e)) : ∃ (od : Option Addr) (sl : Array (Option Value)) (pm ctv : Value), h.get? f = some (⟨.type "function", od, .func (lamFd F e pm ctv), sl⟩ : Obj) := by
  obtain ⟨q, _, _⟩ := hok f _ z
  exact q
theorem clo_nil {cells : List (Str × Addr)} : ∀ {names : List (Str × NameKind)} {acc : List (Str × Addr)}, (∀ y ∈ names, y.2 ≠ .free) → cloFrom cells names acc = acc
  | [], _, _ => rfl
  | (n, k) :: r, acc, h => by
    have hk : (k == NameKind.free) = false := by
      have z := h (n, k) List.mem_cons_self
      cases k <;> first | rfl | exact absurd rfl z
    unfold cloFrom
    rw [hk]
    exact clo_nil fun y hy => h y (List.mem_cons_of_mem _ hy)
section
variable {X : Cx} {pins : List (Addr × Obj)} {σ : L2.St} {H : Hp} {s : Shared}
theorem inv_lam {F : NF} {e : Expr} {t' : Nat} {pm ctv : Value} (I : Inv X pins σ H s) :
    Inv X pins σ (upd H s.heap.objs.size (LamO s.heap.objs.size F e)) { s with heap := s.heap.push ({ cls := .type "function", data := .func (lamFd F e pm ctv) } : Obj), toks := t' } := by
  refine I.laid (a := s.heap.objs.size) (fun b u e => Heap.get?_push_of_some _ e) (Nat.le_refl _) ?_
  have z : (s.heap.push ({ cls := .type "function", data := .func (lamFd F e pm ctv) } : Obj)).get? s.heap.objs.size = some ({ cls := .type "function", data := .func (lamFd F e pm ctv) } : Obj) := Heap.get?_push_size _ rfl
  exact ⟨⟨_, _, pm, ctv, z⟩, ⟨_, z⟩, fun h1 h2 ⟨od, sl, p, t, z⟩ st => ⟨od, sl, p, t, st _ z⟩⟩
theorem lam_mk {T : List NTab} {nm : Nat → Nat → Str} {c P : Addr} {params : Arguments} {body : Expr} {scope : Scope} {pos : Pos} {E : Value → Shared → Prop} {Q : Value → Shared → Prop} (I : Inv X pins σ H s) (TB : TabB X.base X.mg c P) (hcode : X.env.code = .ref c)
    (here : (P, nm) ∈ T) (nmEq : nm pos.line pos.col = X.env.qual ++ "<lambda>") (one : ∀ p ∈ T, p.1 = P → p.2 = nm) (tabs0 : TabsN T H) (hdef : defaultsOf params X.env = ([], [])) (hfree : ∀ y ∈ scope.names, y.2 ≠ .free)
    (h : ∀ (f c' : Addr) (H1 : Hp) (sn : Shared), Inv X pins σ H1 sn → ExtN H H1 → (∀ b, H1 b = Option.none → H b = Option.none) → TabsN T H1 → H f = none → H1 f = some (LamO f ⟨"<lambda>", X.env.qual ++ "<lambda>", params, [], scope, [], c'⟩ body) → H1 c' = some (CodeO c' (X.env.qual ++ "<lambda>")) → Q (.ref f) sn) :
    wpAny (model X.prog X.w) X.A (eval (.Lambda params body scope pos) X.env) Q E s := by
  obtain ⟨held, atTab, good, told⟩ := (show TabN H P nm from tabs0 _ here)
  refine PySem.W.kla_eval hdef ?_
  have bltn : s.heap.BuiltinsAt X.mg P := TB.bm.keeps I.bk
  have tabIs : s.heap.get? P = some { cls := .none, data := .fields held } := I.hok P _ atTab
  have noClo : closureFor scope X.env = pure [] := by
    have z := closure_ok (scope := scope) (env := X.env) fun y hy e => absurd e (hfree y hy)
    rw [clo_nil hfree] at z
    exact z
  cases look : codeAmong pos held.toList with
  | none =>
    refine PySem.W.kla_makeFunction (mg := X.mg) (c := c) (P := P) (ps := held) noClo I.ok.glob (I.mod.glob.keeps I.bk) hcode (TB.code.keeps I.bk) tabIs good look TB.gP bltn fun c' ctv hh tk kept0 above below rec0 tabNow => ?_
    obtain ⟨cc, cob, flds, tk0, same2, isCode, data0, name0⟩ := rec0
    cases same2
    have newC : H c' = none := I.hok.fresh above
    have J1 := inv_table (t' := tk) (more := #[rawInt pos.line, rawInt pos.col, .ref c']) (h' := hh) I atTab (fun b o same e => kept0 b o same e) tabNow above ⟨cob, flds, tk0, isCode, data0, name0⟩
    have keepN : ExtN H (upd (upd H P (.tbl (held ++ #[rawInt pos.line, rawInt pos.col, .ref c']))) c' (CodeO c' (X.env.qual ++ "<lambda>"))) := fun b o e n => by
      rw [upd_ne (ne_of_none e newC), upd_ne (fun z => n held (Option.some.inj (e.symm.trans (by rw [z]; exact atTab))))]
      exact e
    have eqL : (held ++ #[rawInt pos.line, rawInt pos.col, .ref c']).toList = held.toList ++ [rawInt pos.line, rawInt pos.col, .ref c'] := by simp
    have tabs1 : TabsN T (upd (upd H P (.tbl (held ++ #[rawInt pos.line, rawInt pos.col, .ref c']))) c' (CodeO c' (X.env.qual ++ "<lambda>"))) := fun p hp => by
      by_cases same : p.1 = P
      · rw [one p hp same, same]
        refine ⟨_, by rw [upd_ne (ne_of_none atTab newC), upd_same], by rw [eqL]; exact PySem.TriplesOk_snoc _ _ _ _ good, fun p' cv hit => ?_⟩
        rw [eqL] at hit
        rcases among_app2 _ good hit with z | ⟨z, lineEq, colEq⟩
        · obtain ⟨cod, q1, same2⟩ := told p' cv z
          exact ⟨cod, q1, keepN _ _ same2 codeO_ne⟩
        · refine ⟨c', z, ?_⟩
          rw [← lineEq, ← colEq, nmEq]
          exact upd_same
      · obtain ⟨held', w1, w2, w3⟩ := tabs0 p hp
        refine ⟨held', by rw [upd_ne (ne_of_none w1 newC), upd_ne same]; exact w1, w2, fun p' cv hit => ?_⟩
        obtain ⟨cod, q1, same2⟩ := w3 p' cv hit
        exact ⟨cod, q1, keepN _ _ same2 codeO_ne⟩
    have newF := J1.hok.fresh (Nat.le_refl _)
    have J2 := inv_lam (F := ⟨"<lambda>", X.env.qual ++ "<lambda>", params, [], scope, [], c'⟩) (e := body) (t' := tk) (pm := (X.mg "__name__").getD .none) (ctv := ctv) J1
    refine h hh.objs.size c' _ _ J2 (fun b o e n => ?_) (fun b e => upd_none (upd_none (upd_none e))) (tabs1.ext fun b o e => ?_) (I.hok.fresh (Nat.le_trans above (Nat.le_of_lt below))) upd_same ?_
    · have q1 := keepN b o e n
      exact (upd_ne (ne_of_none q1 newF)).trans q1
    · exact (upd_ne (ne_of_none e newF)).trans e
    · exact (upd_ne (Nat.ne_of_lt below)).trans upd_same
  | some cv =>
    obtain ⟨c', e, known⟩ := told pos cv look
    subst e
    rw [nmEq] at known
    refine PySem.W.kla_makeFunctionHit (mg := X.mg) (c := c) (P := P) (ps := held) noClo I.ok.glob (I.mod.glob.keeps I.bk) hcode (TB.code.keeps I.bk) tabIs good look bltn fun ctv hh tk kept0 size0 => ?_
    have J1 : Inv X pins σ H { s with heap := hh, toks := tk } := I.kept kept0
    have newF : H hh.objs.size = none := J1.hok.fresh (Nat.le_refl _)
    have J2 := inv_lam (F := ⟨"<lambda>", X.env.qual ++ "<lambda>", params, [], scope, [], c'⟩) (e := body) (t' := tk) (pm := (X.mg "__name__").getD .none) (ctv := ctv) J1
    refine h hh.objs.size c' _ _ J2 (fun b o e n => ?_) (fun b e => upd_none e) (tabs0.ext fun b o e => ?_) newF upd_same ?_
    · exact (upd_ne (ne_of_none e newF)).trans e
    · exact (upd_ne (ne_of_none e newF)).trans e
    · exact (upd_ne (ne_of_none known newF)).trans known
end
/-- the reading of lambda ..: body -/
def tLm (T : List NTab) (q : Str) (params : Arguments) (scope : Scope) (body : Expr) : TE := fun σ H Q => TabsN T H ∧ ∀ (f c' : Addr) (H1 : Hp), ExtN H H1 → (∀ b, H1 b = Option.none → H b = Option.none) → TabsN T H1 → H f = none → H1 f = some (LamO f ⟨"<lambda>", q, params, [], scope, [], c'⟩ body) → H1 c' = some (CodeO c' q) → Q (.ref f) H1
theorem pe_lam {X : Cx} {T : List NTab} {nm : Nat → Nat → Str} {c P : Addr} {params : Arguments} {body : Expr} {scope : Scope} {pos : Pos} {q : Str} (TB : TabB X.base X.mg c P) (hcode : X.env.code = .ref c)
    (hm : (P, nm) ∈ T) (hn : nm pos.line pos.col = q) (hu : ∀ p ∈ T, p.1 = P → p.2 = nm) (hq : X.env.qual ++ "<lambda>" = q) (hdef : defaultsOf params X.env = ([], [])) (hfree : ∀ y ∈ scope.names, y.2 ≠ .free) :
    PE X (.Lambda params body scope pos) (tLm T q params scope body) := by
  subst hq
  refine ⟨fun pins s σ H Q I h => ?_⟩
  obtain ⟨hT, h⟩ := h
  exact lam_mk I TB hcode hm hn hu hT hdef hfree fun f c' H1 s' I1 eN nn T1 f0 f1 c1 => ⟨.ref f, H1, I1, rfl, h f c' H1 eN nn T1 f0 f1 c1⟩
/-! ### what a lambda promises -/
structure LOk (P : Program) (w : World) (K : PySem.W.Frag) (mg : Str → Option Value) (base : Heap) (CX : CXT) (k : Nat) (f : Addr) (F : NF) (e : Expr) (ps : List Str) (sp : Sp) : Prop where
  len : ∀ vs H Q E, sp vs H Q E → vs.length = ps.length
  run : ∀ (A : Around) (outer : List Env) (s : Shared) (H : Hp) (us : List Value) (vs : List V) (Q : VK) (E : XK), Room k A → Env0 P w K mg base A outer s H → H f = some (LamO f F e) → H F.c = some (CodeO F.c F.qual) →
    Vals vs us → sp vs H Q E → codeAny (model P w) A (.call (.ref f) ⟨us, []⟩) (CR CX outer P w H s Q E) s
section
variable {CX : CXT} {P : Program} {w : World} {K : PySem.W.Frag} {mg : Str → Option Value} {base : Heap} {N ps : List Str} {F : NF} {f : Addr} {e : Expr} {k : Nat} {sp : Sp}
theorem lok_of (S : NScope N ps [] F.scope) (hcl : F.cl = []) (hb : ∀ (pm ctv : Value) (us : List Value), us.length = ps.length → bindArgs (lamFd F e pm ctv) ⟨us, []⟩ = pure (ps.zip us)) (len : ∀ vs H Q E, sp vs H Q E → vs.length = ps.length)
    (hbody : ∀ (A : Around) (outer : List Env) (s : Shared) (H : Hp) (vs : List V) (Q : VK) (E : XK), Room k (A.deeper (envF F f s.heap.objs.size)) → sp vs H Q E →
      ∃ t, PE (ncx CX P w K mg base N F f A outer s H E) e t ∧ t (startF N vs []) H Q) :
    LOk P w K mg base CX (k + 1) f F e ps sp := by
  refine ⟨len, fun A outer s H us vs Q E room env atF atC rel pre => ?_⟩
  have many := len _ _ _ _ pre
  have free : s.heap.NoLimit := env.mod.nolimit.keeps fun b o e => (env.bs b o e).1
  obtain ⟨od, sl, pm, ctv, obj⟩ := lamO_at env.hok atF
  have C : CellsAt F.cl [] [] s.heap H := by
    rw [hcl]
    exact ⟨rfl, fun y c z => (nomatch z), fun x y c z => (nomatch z), fun i y z => (nomatch z)⟩
  refine PySem.W.kla_callFunE room.depth obj rfl S.co S.gen rfl (codeO_at env.hok atC) ?_
  rw [hb pm ctv us (by rw [← rel.length]; exact many)]
  refine wpAny_pure (wpAny_newFunctionEnv S.nocell (fun ⟨n, _⟩ mem => S.par n (List.of_mem_zip mem).1) (fun h₁ names but => ⟨free.fresh _ but, ?_⟩) S.kind)
  show codeAny _ _ (.expr e (envF F f s.heap.objs.size)) _ _
  have kept : ∀ b o, s.heap.get? b = some o → h₁.get? b = some o := fun b o e => but.extBut b o (Nat.ne_of_lt (Heap.lt_size e)) (Heap.get?_push_of_some _ e)
  obtain ⟨t, der, rd⟩ := hbody A outer s H vs Q E (room.deeper _) pre
  have I : Inv (ncx CX P w K mg base N F f A outer s H E) [] (startF N vs []) H { s with heap := h₁, toks := s.toks + (ps.zip us).length } := inv_startN S room.hd env many rel C names kept
  refine PySem.W.kla_codeExpr (wpAny_mono (der.run [] _ (startF N vs []) H Q I rd) (fun v s' rd => ?_) fun e s' rd => rd)
  obtain ⟨w', H', J, rw, q⟩ := rd
  exact (⟨w', H', J.os, J.bare, J.base, J.hok, rw, q⟩ : CE outer P w H s Q v s')
end
/-- its promise, whatever its parameters are called -/
def LamK (P : Program) (w : World) (K : PySem.W.Frag) (mg : Str → Option Value) (base : Heap) (k : Nat) (f : Addr) (F : NF) (e : Expr) (sp : Sp) : Prop := ∃ ps, LOk P w K mg base CX0 k f F e ps sp
/-- f(..), f a name that holds a lambda -/
def tCallL (L : Addr → NF → Expr → Sp → Prop) (i : Nat) (E : XK) (t : TA) : TE := fun σ H Q => ∃ (f : Addr) (F : NF) (b : Expr) (sp : Sp), σ[i]? = some (some (.ref f)) ∧ H f = some (LamO f F b) ∧ L f F b sp ∧
  t σ H fun vs H1 => H1 f = some (LamO f F b) ∧ H1 F.c = some (CodeO F.c F.qual) ∧ sp vs H1 Q E
section
variable {X : Cx} {L : Addr → NF → Expr → Sp → Prop} {i k j : Nat} {x : Str} {E : XK} {t : TA} {e : Expr} {es : List Expr} {p pos : Pos}
theorem lamAt_of {pins : List (Addr × Obj)} {σ : L2.St} {H : Hp} {s : Shared} {f : Addr} {F : NF} {b : Expr} (I : Inv X pins σ H s) (z : H f = some (LamO f F b)) : PySem.W.FnAt f s.heap := by
  obtain ⟨od, sl, pm, ctv, ho⟩ := lamO_at I.hok z
  exact ⟨_, od, _, sl, ho⟩
theorem pe_calll (hL : ∀ f F b sp, L f F b sp → LamK X.prog X.w X.K X.mg X.base k f F b sp) (hr : Room j X.A) (hk : k ≤ j) (hx : Passes CX0 X E) (hN : X.N[i]? = some x) (hv : Vis X.env.scope x) (ha : PA X (e :: es) t)
    (hd : (x == ("__debug__" : Str)) = false := by decide) (hcd : (x == ("__classdict__" : Str)) = false := by decide)
    (he : starEach (e :: es) X.env = (false, eval e X.env) :: starEach es X.env := by rfl) (hpl : (backTo pos (starEach es X.env)).any (·.1) = false := by rfl) :
    PE X (.Call (.Name x p) (e :: es) [] pos) (tCallL L i E t) := by
  refine ⟨fun pins s σ H Q I h => ?_⟩
  obtain ⟨f, F, b, sp, slot, atF, isL, rd⟩ := h
  obtain ⟨ps, LO⟩ := hL f F b sp isL
  refine wpAny_Call_Name_kw (thn ((pe_var (pos := p) hN hv hd hcd).run pins s σ H (fun v H1 => v = .ref f ∧ H1 = H) I ⟨.ref f, slot, rfl, rfl⟩) fun u s1 ⟨v, H1, J1, rel1, both⟩ => ?_)
  obtain ⟨isF, sameH⟩ := both
  subst isF
  rw [sameH] at J1
  obtain rfl : u = Value.ref f := rel1
  refine PySem.W.callWith_F (first := []) (lamAt_of J1 atF) (thn (ha.run pos pins s1 σ H _ J1 rd) fun us s2 ⟨vs, H2, J2, r, h1, h2, q⟩ => ⟨lamAt_of J2 h1, ?_⟩) he hpl
  show wpAny _ _ (call (.ref f) us) _ _ _
  refine wpAny_call (codeAny_mono (LO.run X.A X.stack s2 H2 us vs Q E (hr.mono hk) J2.env0 h1 h2 r q) fun r s' out => ?_)
  cases r with
  | error e => exact hx pins σ H2 s2 e s' J2 out
  | ok fl =>
    cases fl with
    | ret u => exact J2.after out
    | next => exact False.elim out
    | brk => exact False.elim out
    | cont => exact False.elim out
end
/-! ### all but the tables stay -/
theorem ExtN.of_same {H H' : Hp} (s : Same H H') : ExtN H H' := fun b o h _ => s b o h
theorem TabsN.same {T : List NTab} {H H' : Hp} (t : TabsN T H) (s : Same H H') : TabsN T H' := TabsN.ext t s
/-- all but the list at b and the tables is as it was -/
def ButN (b : Addr) (H H' : Hp) : Prop := ∀ a o, a ≠ b → (∀ ps, o ≠ .tbl ps) → H a = some o → H' a = some o
theorem ButN.refl (b : Addr) (H : Hp) : ButN b H H := fun _ _ _ _ h => h
theorem ButN.trans {b : Addr} {H H1 H2 : Hp} (x : ButN b H H1) (y : ButN b H1 H2) : ButN b H H2 := fun a o n t h => y a o n t (x a o n t h)
theorem ButN.of {b : Addr} {H H' : Hp} (x : But b H H') : ButN b H H' := fun a o n _ h => x a o n h
theorem ButN.ofN {b : Addr} {H H' : Hp} (x : ExtN H H') : ButN b H H' := fun a o _ t h => x a o h t
theorem frozen_tbl {o : HO} (h : frozen o) : ∀ ps, o ≠ .tbl ps := fun ps e => by
  rw [e] at h
  exact h
theorem ExtN.fz {H H' : Hp} (x : ExtN H H') : Fz H H' := fun a o f h => x a o h (frozen_tbl f)
theorem TabsN.but {T : List NTab} {b : Addr} {H H' : Hp} (t : TabsN T H) (hb : Box H b) (k : But b H H') : TabsN T H' := by
  obtain ⟨x, y, z, hb, _⟩ := hb
  intro p hp
  obtain ⟨ps, h1, h2, h3⟩ := t p hp
  refine ⟨ps, k _ _ (fun q => ?_) h1, h2, fun pos cv hc => ?_⟩
  · rw [q, hb] at h1
    cases h1
  · obtain ⟨c, e1, e2⟩ := h3 pos cv hc
    refine ⟨c, e1, k _ _ (fun q => ?_) e2⟩
    rw [q, hb] at e2
    unfold CodeO at e2
    cases e2
theorem Box.extN {b : Addr} {H H' : Hp} (x : Box H b) (s : ExtN H H') : Box H' b := by
  obtain ⟨x, y, z, h, i⟩ := x
  exact ⟨x, y, z, s _ _ h (fun _ e => by cases e), i⟩
/-! ### the end -/
/-- the tables of the defs of the top are known and empty -/
def TabsTop (K : PySem.W.Frag) (names : List Str) (h : Heap) : Prop := ∀ x ∈ names, ∀ c P, PySem.W.tabIn K x = some (c, P) → PySem.W.CodeHd h c P ∧ h.get? P = some (PySem.W.tabObj #[])
theorem walk_tabs {l : PySem.W.OpenLaw} {n k : Nat} {q : Program} {loose : List Str} {XP : (Str → Option Value) → Heap → Prop} {YP : World → Heap → Prop} {d : DefRec} {K : Params → PySem.W.Frag} {CX : World → CXT} {x : Str} (names : List Str)
    (most : l.most = some n) (fits : n ≤ sizeLine) (noDef : d.params.defaults = []) (room : Room k callerA) (hrec : names.all (fun y => ((recsOf q).find? fun e => e.name == y).isSome) = true) (frag : ∀ (w : World) (h : Heap), YP w h → (K w.params).In h)
    (F : ∀ (w : World) (mg : Str → Option Value) (fa : Addr) (h : Heap), YP w h → (K w.params).In h → h.Ns mainGlobals mg → mg d.name = some (.ref fa) → TabsTop (K w.params) names h → LawAtS l w (K w.params) (CX w) k n x mg fa h)
    (never : ∀ (w : World) (H : Hp) (s : Shared) (e : Value) (s' : Shared), CX w [] H s (fun _ _ _ => False) e s' → False) :
    PySem.W.WalkO q loose XP YP l.row.toRowW d [] (fun f vs => PySem.call f vs) := by
  refine Att.attach_callB most noDef fun w s₀ s₁ mg mb fa o pm cd doc a vs ns G Y ho hd hcd isLaw hobj hints hlen hbits hg => ?_
  have inK := frag w _ Y
  have tabs : TabsTop (K w.params) names s₁.heap := fun y hy c P ht => by
    have z := List.all_eq_true.mp hrec y hy
    obtain ⟨dL, hdL⟩ := Option.isSome_iff_exists.mp z
    exact PySem.W.tab_of G.T inK hdL ht
  obtain ⟨fd, cs, sp, hT, nT, C, hb, hsp, hF⟩ := F w mg fa _ Y inK G.T.g isLaw tabs
  exact law_callTs inK G.T.g G.T.b G.T.builtins G.T.nolimit hg hT nT C G.T.bmain hobj hints (Nat.le_trans hlen fits) room hF hb (fun H hH hS => hsp H a ns hlen hbits hH hS) fun H e s' => never w H s₁ e s'
end Rs
namespace Rs
open PySem PySem.Spec PyProof.Rows L2 LamX NdefX
/-- the name of the lambdas in the def x -/
def lamQ (x : Str) : Str := x ++ ".<locals>." ++ "<lambda>"
theorem code_tab {K : PySem.W.Frag} {x : Str} {f c P : Addr} {oc : Value} {od : Option Addr} {fd : FuncData} {sl : Array (Option Value)} (a : PySem.W.nsIn K mainGlobals x = some (some (.ref f))) (l : K.lookup f = some ⟨oc, od, .func fd, sl⟩) (t : PySem.W.tabIn K x = some (c, P)) : fd.code = .ref c := by
  unfold PySem.W.tabIn at t
  rw [a] at t
  dsimp only at t
  rw [l] at t
  dsimp only at t
  split at t
  · rename_i c2 hc
    split at t
    · split at t
      · cases t
        exact hc
      · cases t
    · cases t
  · cases t
/-- a def by its body, with what is known of its code object -/
theorem Fun.okC {P : Program} {w : World} {K : PySem.W.Frag} {mg : Str → Option Value} {base : Heap} {x qual : Str} {st : Stmt} {f : Addr} {fd : FuncData} {N ps : List Str} {k : Nat} {sp : Sp} (F : Fun K x qual st f fd) (S : FnScope N ps (defScope st)) (len : ∀ vs H Q E, sp vs H Q E → vs.length = ps.length)
    (hbody : ∀ (cdv : Value), fd.code = cdv → ∀ (A : Around) (outer : List Env) (s : Shared) (H : Hp) (vs : List V) (Q : VK) (E : XK), Room k (A.deeper (envOfC qual (defScope st) s.heap.objs.size f cdv)) → sp vs H Q E →
      ∃ t, PSs (cxOf CX0 P w K mg base N qual (defScope st) f cdv A outer s H E).nox (defBody st) t ∧ t { nx := fun _ H' => Q .non H', rt := Q } (start N vs) H) : FnOk P w K mg base CX0 (k + 1) f fd ps sp := by
  obtain ⟨oc, od, kV, doc, pm, an, cdv, ct, osl, rfl, lk, hcd⟩ := F.ex
  refine fn_of lk hcd S len fun A outer s H vs Q E hr hsp => ?_
  obtain ⟨t, h, q⟩ := hbody cdv rfl A outer s H vs Q E hr hsp
  exact ⟨t, h.nox, q⟩
/-- [e for x in l if t] over a list of ints -/
theorem lsel {K : PySem.W.Frag} {L : Addr} {ns : List Int} {te el : TE} {tt : TT} {sl : Nat} {σ : L2.St} {H : Hp} {Q : VK} (c : Int → Bool) (f : Int → V) (hte : ∀ R : VK, R (.ref L) H → te σ H R) (hL : H L = some (.lst (ns.map V.int))) (ln : ns.length ≤ 3000)
    (htt : ∀ n ∈ ns, ∀ (Hc : Hp) (R : Bool → Hp → Prop), Same H Hc → (∀ Hd, Same Hc Hd → R (c n) Hd) → tt ((wipe σ [sl]).set sl (some (.int n))) Hc R)
    (hel : ∀ n ∈ ns, ∀ (Hc : Hp) (R : VK), Same H Hc → (∀ Hd, Same Hc Hd → R (f n) Hd) → el ((wipe σ [sl]).set sl (some (.int n))) Hc R)
    (k : ∀ D H', H D = none → Same H H' → H' D = some (.lst ((ns.filter c).map f)) → Q (.ref D) H') : tLc (iList K te) (gName sl) tt el [sl] σ H Q := by
  refine hte _ ⟨L, rfl, ⟨_, SqL.of hL⟩, fun D hD => lc_it walk_list (fun i Hc => Hc D = some (.lst (((ns.take i).filter c).map f)) ∧ Same H Hc) ⟨upd_same, same_new hD⟩ (fun i Hc _ hR => hR.2.seq (SqL.of hL)) (fun j x Hc H' hj hR hy => ?_) (fun Hc hR => ?_)⟩
  · obtain ⟨rfl, hx⟩ := hy
    obtain ⟨hDc, sc⟩ := hR
    rw [List.getElem?_map] at hx
    obtain ⟨n, hn, rfl⟩ := Option.map_eq_some_iff.mp hx
    refine ⟨by simp [wipe, List.set_set], htt n (List.mem_of_getElem? hn) _ _ sc fun Hd sd => ?_⟩
    have z : (ns.take (j + 1)).filter c = (ns.take j).filter c ++ (if c n = true then [n] else []) := by
      rw [take_snoc hn, List.filter_append, List.filter_cons, List.filter_nil]
    refine ifB (fun e => ?_) (fun e => ?_)
    · refine hel n (List.mem_of_getElem? hn) _ _ (sc.trans sd) fun He se => ⟨_, se _ _ (sd _ _ hDc), ?_, ?_, same_lst ((sc.trans sd).trans se) hD⟩
      · rw [List.length_map]
        have := List.length_filter_le c (ns.take j)
        rw [List.length_take] at this
        exact szL2 (by omega)
      · rw [upd_same, z, e, if_pos rfl, List.map_append]
        rfl
    · refine ⟨?_, sc.trans sd⟩
      rw [z, e, if_neg Bool.false_ne_true, List.append_nil]
      exact sd _ _ hDc
  · rw [List.length_map, List.take_length] at hR
    exact k D Hc hD hR.2 hR.1
/-- [e for x in t] over a tuple of any things -/
theorem lmapTI {K : PySem.W.Frag} {L : Addr} {xs : List V} {te el : TE} {sl : Nat} {σ : L2.St} {H : Hp} {Q : VK} (f : Nat → V) (hte : ∀ R : VK, (∀ H1, Same H H1 → H1 L = some (.tup xs) → R (.ref L) H1) → te σ H R) (ln : xs.length ≤ 3000)
    (hel : ∀ (j : Nat) (x : V), xs[j]? = some x → ∀ (Hc : Hp) (R : VK), Same H Hc → (∀ Hd, Same Hc Hd → R (f j) Hd) → el ((wipe σ [sl]).set sl (some x)) Hc R)
    (k : ∀ D H', H D = none → Same H H' → H' D = some (.lst ((List.range xs.length).map f)) → Q (.ref D) H') : tLc (iTup K te) (gName sl) tYes el [sl] σ H Q := by
  refine hte _ fun H1 s1 hL => ⟨L, rfl, ⟨_, SqT.of hL⟩, fun D hD => lc_it walk_tup (fun i Hc => Hc D = some (.lst ((List.range i).map f)) ∧ Same H1 Hc) ⟨upd_same, same_new hD⟩ (fun i Hc _ hR => (Fz.of_same hR.2).sqT (SqT.of hL)) (fun j x Hc H' hj hR hy => ?_) (fun Hc hR => k D Hc (s1.free hD) (s1.trans hR.2) hR.1)⟩
  obtain ⟨rfl, hx⟩ := hy
  obtain ⟨hDc, sc⟩ := hR
  refine ⟨by simp [wipe, List.set_set], ?_⟩
  dsimp only [tYes]
  rw [if_pos rfl]
  have lt : j < xs.length := (List.getElem?_eq_some_iff.mp hx).1
  refine hel j x hx _ _ (s1.trans sc) fun Hd sd => ?_
  refine ⟨_, sd _ _ hDc, ?_, ?_, same_lst (sc.trans sd) hD⟩
  · rw [List.length_map, List.length_range]
    exact szL2 (by omega)
  · rw [upd_same, List.range_succ, List.map_append]
    rfl
end Rs
/-! o[i] by an own __getitem__ -/
namespace Rs
open PySem PySem.Spec PyProof.Rows L2
section
variable {X : Cx} {CX : CXT} {C g : Addr} {n : Nat} {sp : Sp} {E : XK} {a b : Expr} {ta tb : TE} {pos : Pos}
def rGetO (C : Addr) (sp : Sp) (E : XK) : R2 := fun x y H Q => ∃ a dx fs, x = .ref a ∧ H a = some (.ins C dx fs) ∧ sp [.ref a, y] H Q E
theorem pe_ixO (M : Meth X.K C "__getitem__" g) (hfn : PySem.W.fnIn X.K g = true) (F : FnR X.prog X.w X.K X.mg X.base CX n g sp) (hr : Room (n + 1) X.A) (hx : Passes CX X E) (ha : PE X a ta) (hb : PE X b tb)
    (hsl : ∀ x i, subscripted b true (.ref x) i = runValue (.builtin "lifetime.subscript" ⟨[.ref x, i], []⟩) := by intro x i; with_unfolding_all rfl) : PE X (.Subscript a b pos) (tOp (rGetO C sp E) ta tb) := by
  refine ⟨fun pins s σ H Q I h => ?_⟩
  refine Subscript_ (binT ha hb I h fun v u s2 x y H2 I2 rx ry q => ?_)
  obtain ⟨z, dx, fs, rfl, hz, q⟩ := q
  cases (show v = Value.ref z from rx)
  obtain ⟨ox, od, J⟩ := ins_at I2 hz
  obtain ⟨m, hF⟩ := I2.fr
  refine PySem.W.sub_K hF I2.ok.mod.kin J M.at_ hfn M.fn ?_ (hsl z u)
  have sb : Sub X n X.A.in1 := Sub.in1 ⟨hr, rfl⟩
  have e0 : Env0 X.prog X.w X.K X.mg X.base X.A.in1 X.stack s2 H2 := by
    have e := I2.env0
    exact ⟨by rw [sb.fr]; exact e.frames, e.mod, e.bs, e.bsz, e.funs, e.frf, e.hok, e.bare⟩
  exact wpAny_call (SlX.run_at (us := [.ref z, u]) (ws := [.ref z, y]) F sb.room e0 hx I2 (.cons rfl (.cons ry .nil)) q)
end
end Rs
/-! len(o) by an own __len__; o.m(e, ..) and o[i] within a try, what they let out is wished for at the caller's slots -/
namespace Rs
open PySem PySem.Spec PyProof.Rows L2
section
variable {X : Cx} {CX : CXT} {C g : Addr} {n : Nat} {sp : Sp} {E : XK}
def rLenO (C : Addr) (sp : Sp) (E : XK) : List V → Hp → VK → Prop := fun xs H Q => ∃ a dx fs, xs = [.ref a] ∧ H a = some (.ins C dx fs) ∧ sp [.ref a] H (fun z H' => ∃ i : Int, z = .int i ∧ 0 ≤ i ∧ i < 2 ^ 63 ∧ Q (.int i) H') E
theorem call_lenO (M : Meth X.K C "__len__" g) (F : FnR X.prog X.w X.K X.mg X.base CX n g sp) (hr : Room (n + 1) X.A) (hx : Passes CX X E) : CallR X (.builtin "len") (rLenO C sp E) := by
  intro pins s σ H xs us Q I r h
  obtain ⟨a, dx, fs, rfl, ha, q⟩ := h
  cases r with
  | cons r1 rr =>
    cases rr
    cases (show _ = Value.ref a from r1)
    obtain ⟨ox, od, J⟩ := ins_at I ha
    have hr1 : Room n X.A.in1 := Room.in1 hr
    obtain ⟨m, hF⟩ := I.fr
    refine PySem.W.len_K hF I.ok.mod.kin J M.at_ M.fn ?_
    refine wpAny_mono (wpAny_call (SlX.run_at (us := [.ref a]) (ws := [.ref a]) F hr1 I.env0.in1 hx I (.cons rfl .nil) q)) (fun w s' z => ?_) fun _ _ x => x
    obtain ⟨z', H', I', rz, i, ei, i0, i1, qz⟩ := z
    subst ei
    obtain ⟨t, rfl⟩ := rz
    exact ⟨⟨i0, i1⟩, .int i, H', I'.tok _, ⟨_, rfl⟩, qz⟩
end
section
variable {X : Cx} {CX : CXT} {C g : Addr} {n : Nat} {sp : Sp} {E : L2.St → XK} {a b : Expr} {ta tb : TE} {pos : Pos}
def tGetS (C : Addr) (sp : Sp) (E : L2.St → XK) (ta tb : TE) : TE := fun σ H Q => ta σ H fun x H1 => tb σ H1 fun y H2 => ∃ a dx fs, x = .ref a ∧ H2 a = some (.ins C dx fs) ∧ sp [.ref a, y] H2 Q (E σ)
theorem pe_ixOS (M : Meth X.K C "__getitem__" g) (hfn : PySem.W.fnIn X.K g = true) (F : FnR X.prog X.w X.K X.mg X.base CX n g sp) (hr : Room (n + 1) X.A) (hx : ∀ σ, PassesAt CX X σ (E σ)) (ha : PE X a ta) (hb : PE X b tb)
    (hsl : ∀ x i, subscripted b true (.ref x) i = runValue (.builtin "lifetime.subscript" ⟨[.ref x, i], []⟩) := by intro x i; with_unfolding_all rfl) : PE X (.Subscript a b pos) (tGetS C sp E ta tb) := by
  refine ⟨fun pins s σ H Q I h => ?_⟩
  refine Subscript_ (binT ha hb I h fun v u s2 x y H2 I2 rx ry q => ?_)
  obtain ⟨z, dx, fs, rfl, hz, q⟩ := q
  cases (show v = Value.ref z from rx)
  obtain ⟨ox, od, J⟩ := ins_at I2 hz
  obtain ⟨m, hF⟩ := I2.fr
  refine PySem.W.sub_K hF I2.ok.mod.kin J M.at_ hfn M.fn ?_ (hsl z u)
  have sb : Sub X n X.A.in1 := Sub.in1 ⟨hr, rfl⟩
  have e0 : Env0 X.prog X.w X.K X.mg X.base X.A.in1 X.stack s2 H2 := by
    have e := I2.env0
    exact ⟨by rw [sb.fr]; exact e.frames, e.mod, e.bs, e.bsz, e.funs, e.frf, e.hok, e.bare⟩
  refine wpAny_call (codeAny_mono (F X.A.in1 X.stack s2 H2 [.ref z, u] [.ref z, y] Q (E σ) sb.room e0 (.cons rfl (.cons ry .nil)) q) fun r s' hq => ?_)
  cases r with
  | error e => exact hx σ pins H2 s2 e s' I2 hq
  | ok fl =>
    cases fl with
    | ret u => exact I2.after hq
    | next => exact False.elim hq
    | brk => exact False.elim hq
    | cont => exact False.elim hq
end
section
variable {X : Cx} {CX : CXT} {k : Nat} {f C : Addr} {fd : FuncData} {ps : List Str} {sp : Sp} {E : L2.St → XK} {m : Str} {pos apos : Pos} {e o : Expr} {es : List Expr} {ta : TE} {t : TA}
def tMethS (C : Addr) (m : Str) (sp : Sp) (E : L2.St → XK) (ta : TE) (t : TA) : TE := fun σ H Q => ta σ H fun x H1 => ∃ a dx fs, x = .ref a ∧ H1 a = some (.ins C dx fs) ∧ fs.lookup m = none ∧ t σ H1 fun vs H2 => sp (x :: vs) H2 Q (E σ)
theorem pe_methT {pl : Sem Bool} (he : PE X o ta) (c : Cls X.K C) (hm : Meth X.K C m f) (F : FnOk X.prog X.w X.K X.mg X.base CX k f fd ps sp) (hr : Room k X.A) (hb : Binds X.K fd ps []) (hx : ∀ σ, PassesAt CX X σ (E σ)) (ha : PA X (e :: es) t)
    (hst : starEach (e :: es) X.env = (false, eval e X.env) :: starEach es X.env := by rfl) (hpl : (backTo pos (starEach es X.env)).any (·.1) = false := by rfl)
    (ht : eval (.Call (.Attribute o m apos) (e :: es) [] pos) X.env = (do
      let ov ← eval o X.env
      standAt apos.atName
      let (f, first) ← holding [ov] (getMethod ov m pl)
      callWith pos f first (backTo pos (starEach (e :: es) X.env)) (backToKw pos (keywordEach [] X.env))) := by rfl) : PE X (.Call (.Attribute o m apos) (e :: es) [] pos) (tMethS C m sp E ta t) := by
  refine ⟨fun pins s σ H Q I h => ?_⟩
  refine PySem.W.methodCall_KW (pl := pl) (thn (he.run pins s σ H _ I h) fun u s1 res => ?_) ht
  obtain ⟨x, H1, I1, rx, a, dx, fs, ex, ea, l, q⟩ := res
  subst ex
  cases (show u = Value.ref a from rx)
  refine getmeth_ok I1 ea c hm l ?_
  refine PySem.W.callWith_K (first := [.ref a]) (h₀ := X.base) I.ok.mod.kin hm.kp (thn (ha.run pos pins s1 σ H1 _ I1 q) fun us s2 res => ?_) hst hpl
  obtain ⟨vs, H2, I2, r, q2⟩ := res
  exact ⟨I2.kIn, run_fnS (us := .ref a :: us) (vs := .ref a :: vs) F hr hb (hx σ) I2 (.cons rfl r) q2⟩
end
end Rs
/-! An own class over IndexError whose __init__ is walked as a def and sets one field: OexC of HandS.ExcInit speaks of ValueError. -/
namespace Rs
open PySem PySem.Spec PyProof.Rows L2
/-- IndexError's line of classes -/
abbrev ieTail : List Value := [.type "IndexError", .type "LookupError", .type "Exception", .type "BaseException", .type "object"]
section
open PySem.Builtin PySem.Builtin.ObjectAttr PySem.W
theorem ie_passes (self : Value) (C : Addr) : refuseLoop self "__setattr__" (.ref C :: ieTail) = pure () := by
  rw [refuseLoop_ref]
  kernel_rfl
variable {prog : Program} {w : World} {A : Around} {R : Result → Shared → Prop} {hp : Heap} {g : Array GenState} {dr : Drawn} {tn : Nat} {os : OsState}
/-- self.name = v where self has no dict as yet -/
theorem osa_ie {K : Frag} {name : Str} {tk : Tok} {v : Value} {x C : Addr} {fv : Array Value} {cd : ClassData} (X : K.In hp) (there : hp.get? x = some { cls := .ref C, data := .fields fv }) (is : clsIn K C = some cd) (line : cd.mro = .ref C :: ieTail) (has : cd.hasDict = true)
    (free : findIn K (.ref C) name = some none)
    (go : ∀ h2 t2 dx, (∀ b o, b ≠ x → hp.get? b = some o → h2.get? b = some o) → hp.objs.size ≤ dx → dx ≠ x → h2.get? x = some { cls := .ref C, dict := some dx, data := .fields fv } → h2.Ns1 dx (fun y => if y = name then some v else none) →
      R (.ok (.ret .none)) ⟨h2, g, dr, t2, os⟩) : codeAny (model prog w) A (.call (.builtin "object.__setattr__") ⟨[.ref x, .str name tk, v], []⟩) R ⟨hp, g, dr, tn, os⟩ := by
  have J : InstAt hp x { cls := .ref C, data := .fields fv } C none := ⟨there, rfl, rfl, trivial⟩
  have xs : x ≠ hp.objs.size := Nat.ne_of_lt (Heap.lt_size there)
  have full : cd.mro.isEmpty = false := by rw [line]; rfl
  have obj : cd.mro.contains (.type "object") = true := by rw [line, List.contains_cons]; exact (Bool.or_eq_true _ _).mpr (.inr (by decide +kernel))
  have inst : Looks (model prog w) hp (isInstance (.ref x) (.type "object")) true :=
    J.type.andThen (looks_mroIn X (by unfold mroIn; rw [is, Option.bind_some, if_neg (by rw [full]; decide), obj]))
  refine codeAny_call_builtin PySem.F.store_object.slot.plain PySem.F.store_object.entry
    (@check_slot (model prog w) _ _ ⟨hp, g, dr, tn, os⟩ "object.__setattr__" "object" "__setattr__" (.ref x) [.str name tk, v] [] _ PySem.F.store_object.kind PySem.F.store_object.split inst (PySem.F.store_object.args (.ref x) (.str name tk) v) ?_)
  have mro : Looks (model prog w) hp (mroOf (.ref C)) cd.mro := (looks_clsIn X is).andThen .now
  have nobody : Looks (model prog w) hp (storeTaker? none) none := .now
  have data : Looks (model prog w) hp (classData C) cd := looks_clsIn X is
  rw [osa_eq, refuse_eq]
  refine wpAny_bind (wpAny_bind (J.type.at (wpAny_bind (mro.at ?_))))
  rw [line, ie_passes]
  refine wpAny_pure (wpAny_bind (J.type.at (wpAny_bind ((looks_findIn X free).at (wpAny_bind (nobody.at ?_))))))
  show wpAny _ _ (storeInOwnDict (.ref x) (.ref C) (.str name tk) name v false) _ _ _
  clear full obj mro line
  obtain ⟨nm, bs, mro, ns, qn, hd, sn, sb, ab, col, del⟩ := cd
  dsimp only at has
  subst has
  unfold storeInOwnDict
  unfold ownDictForStores
  repeat (first | with_reducible refine PySem.HandSPX.store_in_new ?_ ?_ | (with_reducible refine wpAny_loadPart_at there ?_) | (with_reducible refine data.at ?_) | wp_step)
  · exact ⟨_, #[], _, (Heap.get?_update_ne _ _ _ _ xs.symm).trans (Heap.get?_push_at rfl rfl), rfl, (fun e he => by simp at he), fun _ => rfl⟩
  · intro h2 t2 ns1 sb
    have there2 : (hp.push { cls := .type "dict", data := .dict #[] }).get? x = some { cls := .ref C, data := .fields fv } := Heap.get?_push_of_some _ there
    refine go h2 t2 hp.objs.size (fun b o nb ho => ?_) (Nat.le_refl _) xs.symm ((sb.2 x xs).trans (Heap.get?_update_self _ there2 rfl)) ns1
    exact (sb.2 b (Nat.ne_of_lt (Heap.lt_size ho))).trans ((Heap.get?_update_ne _ _ _ _ nb).trans (Heap.get?_push_of_some _ ho))
end
/-- what the written part says of such a class -/
structure OexI (K : PySem.W.Frag) (C : Addr) : Prop where
  cls : ∃ nm q N bs sn sub ab col dd k0 k1 k2 k3 k5, K.lookup C = some (excClassObj nm q C N bs ieTail true sn sub ab col dd k0 k1 k2 k3 k5 "IndexError.__new__")
  sa : PySem.W.findIn K (.ref C) "__setattr__" = some (some (.builtin "object.__setattr__"))
  ex : PySem.W.subIn K (.ref C) (.type "BaseException") = some true
  ty : PySem.W.typeIn K (.ref C) = some (.type "type")
  kp : PySem.W.keepIn K (.ref C) = true
section
variable {X : Cx} {pins : List (Addr × Obj)} {σ : L2.St} {H : Hp} {s : Shared} {a C : Addr} {f : Str} {y : V} {u : Value} {E : Value → Shared → Prop} {A : Around} {Q : Unit → Shared → Prop}
theorem ost_ie (T : OexI X.K C) (I : Inv X pins σ H s) (e : H a = some (exo a C none)) (free : PySem.W.findIn X.K (.ref C) f = some none) (ry : RelV y u)
    (go : ∀ dx s2, H dx = none → dx ≠ a → Inv X pins σ (upd (upd H dx (exd dx [(f, y)])) a (exo a C (some dx))) s2 → Q () s2) : wpAny (model X.prog X.w) A (setAttr (.ref a) f u) Q E s := by
  obtain ⟨nm, q, N, bs, sn, sub, ab, col, dd, k0, k1, k2, k3, k5, hC⟩ := T.cls
  have known : PySem.W.clsIn X.K C = some { name := nm, bases := bs, mro := .ref C :: ieTail, ns := N, qualname := q, hasDict := true, slotNames := sn, subclasses := sub, abstract := ab, collection := col, hasDel := false } := by
    unfold PySem.W.clsIn
    rw [hC]
  obtain ⟨t1, ho⟩ := exo_at I.hok e
  obtain ⟨hp, g, d, t, os⟩ := s
  refine PySem.W.set_plain I.kIn (ox := { cls := .ref C, dict := none, data := .fields #[.ref t1, .none, .none, .none, .bool false, .none] }) (od := none) ⟨ho, rfl, rfl, trivial⟩ T.sa
    (osa_ie I.kIn ho known rfl rfl free fun h2 tk2 dx kept new ne hx ns => ?_)
  have none2 : H dx = none := I.hok.fresh new
  have old : ∀ {b : Addr} {o : Obj}, hp.get? b = some o → b ≠ dx := fun {b o} z => Nat.ne_of_lt (Nat.lt_of_lt_of_le (Heap.lt_size z) new)
  have nota : ∀ {b : Addr}, H b = none → b ≠ a := fun {b} n z => by rw [z, e] at n; cases n
  have far : ∀ {b : Addr} {o : HO}, H b = some o → (∀ r, exo a C r ≠ o) → upd (upd H dx (exd dx [(f, y)])) a (exo a C (some dx)) b = some o := fun {b o} z n => by
    rw [upd_ne (fun w => by rw [w, e] at z; exact n none (Option.some.inj z)), upd_ne (ne_of_none z none2)]
    exact z
  have U : Un X.fs [] H (upd (upd H dx (exd dx [(f, y)])) a (exo a C (some dx))) hp h2 :=
    { keep := fun b o z n _ _ => kept b o (nota n) z
      slot := fun b o z n _ _ => ⟨o.slots, kept b o (nota n) z⟩
      free := fun b o z n _ => by rw [upd_ne (nota n), upd_ne (old z)]; exact n
      there := fun b o z _ => by
        by_cases hb : b = a
        · subst hb
          exact ⟨_, hx⟩
        · exact ⟨o, kept b o hb z⟩
      tups := fun b xs z => far z fun r => exo_tup
      frzs := fun b o v z => by
        rw [upd_ne (at_ne e z exo_frz), upd_ne (ne_of_none z none2)]
        exact z
      tbls := fun b ps z => ⟨#[], by rw [upd_ne (at_ne e z exo_tbl), upd_ne (ne_of_none z none2), z]; simp⟩ }
  refine go dx _ none2 ne (I.un (t' := tk2) U fun b o z => ?_)
  by_cases hb : b = a
  · subst hb
    rw [upd_same] at z
    cases z
    exact exo_ok hx
  rw [upd_ne hb] at z
  by_cases hd : b = dx
  · subst hd
    rw [upd_same] at z
    cases z
    exact exd_ok ns (relO_put (fs := []) ry fun _ => True.intro)
  rw [upd_ne hd] at z
  have way : ∀ {c : Addr} {o2 : HO}, H c = some o2 → c ≠ a → upd (upd H dx (exd dx [(f, y)])) a (exo a C (some dx)) c = some o2 := fun {c o2} hc nc => by
    rw [upd_ne nc, upd_ne (ne_of_none hc none2)]
    exact hc
  refine (I.hok b o z).stay (fun c v hc z2 => kept c v ?_ z2) (fun c hc => way hc (at_ne e hc exo_own)) fun c xs hc => way hc (at_ne e hc exo_tup)
  rcases hc with hc | hc
  · exact hc ▸ hb
  · exact at_ne e hc exo_own
end
section
variable {X : Cx} {o e : Expr} {es : List Expr} {to te : TE} {ta : TA} {f : Str} {p p' pos : Pos}
/-- self.f = e, the first field -/
def tOsi (K : PySem.W.Frag) (f : Str) (to te : TE) : TS := fun D σ H => te σ H fun y H1 => to σ H1 fun x H2 => ∃ a C : Addr, x = .ref a ∧ OexI K C ∧ PySem.W.findIn K (.ref C) f = some none ∧
  H2 a = some (exo a C none) ∧ ∀ dx, H2 dx = none → dx ≠ a → D.nx σ (upd (upd H2 dx (exd dx [(f, y)])) a (exo a C (some dx)))
theorem ps_osi (ho : PE X o to) (he : PE X e te) (hs : swapsWith e (some (.Attribute o f p')) pos.line X.env = pure false := by rfl) : PS X (.Assign [.Attribute o f p'] e pos) (tOsi X.K f to te) := by
  refine ⟨fun pins s σ H D I h => plainObj_wpAny_Assign_Attribute (thn (he.run pins s σ H _ I h) fun v s1 r1 => ?_) hs⟩
  obtain ⟨y, H1, I1, ry, q1⟩ := r1
  refine thn (ho.run pins s1 σ H1 _ I1 q1) fun u s2 r2 => ?_
  obtain ⟨x, H2, I2, rx, a, C, ex, T, free, ea, q⟩ := r2
  subst ex
  cases (show u = Value.ref a from rx)
  exact ost_ie T I2 ea free ry fun dx s3 n ne J => ⟨σ, _, J, q dx n ne⟩
/-- C(e, ..), C's own __init__ keeping sp -/
theorem pmk_oei {CX : CXT} {x : Str} {C fI : Addr} {k : Nat} {fd : FuncData} {ps : List Str} {sp : Sp} (T : OexI X.K C) (iC : PySem.W.findIn X.K (.ref C) "__init__" = some (some (.ref fI))) (tI : PySem.W.typeIn X.K (.ref fI) = some (.type "function"))
    (F : FnOk X.prog X.w X.K X.mg X.base CX k fI fd ps sp) (hr : Room (k + 1) X.A) (hb : Binds X.K fd ps []) (hx : Passes CX X (fun _ _ _ => False)) (hg : Gl X x) (hm : X.mg x = some (.ref C)) (ha : PA X (e :: es) ta)
    (hdb : (x == ("__debug__" : Str)) = false := by decide) (he : starEach (e :: es) X.env = (false, eval e X.env) :: starEach es X.env := by rfl) (hpl : (backTo pos (starEach es X.env)).any (·.1) = false := by rfl) : PMk X (.Call (.Name x p) (e :: es) [] pos) (tMkO C sp [] ta) := by
  intro pins s σ H Q I h
  obtain ⟨nm, q, N, bs, sn, sub, ab, col, dd, k0, k1, k2, k3, k5, hC⟩ := T.cls
  refine wpAny_Call_Name_kw (ld_glob I hg hm (PySem.W.callWith_K (h₀ := X.base) I.ok.mod.kin T.kp (thn (ha.run pos pins s σ H _ I h) fun us s1 res => ?_) he hpl) hdb)
  obtain ⟨vs, H1, I1, r1, hz, q1⟩ := res
  refine ⟨I1.kIn, ?_⟩
  show wpAny _ _ (call (.ref C) us) _ _ _
  obtain ⟨hp, g, dr, tk, os⟩ := s1
  have up : hp.objs.size ≤ hp.objs.size + 1 := Nat.le_succ _
  have want := q1 (hp.objs.size + 1) (I1.hok.fresh up)
  have kept : ∀ b o, hp.get? b = some o → ((hp.push (PySem.W.kdv_tup us)).push (PySem.HandSPX.excO C hp.objs.size)).get? b = some o := fun b o z => Heap.get?_push_of_some _ (Heap.get?_push_of_some _ z)
  have at1 : ((hp.push (PySem.W.kdv_tup us)).push (PySem.HandSPX.excO C hp.objs.size)).get? (hp.objs.size + 1) = some (PySem.HandSPX.excO C hp.objs.size) := by heap_get
  have J : Inv X pins σ (upd H1 (hp.objs.size + 1) (exo (hp.objs.size + 1) C none)) ⟨(hp.push (PySem.W.kdv_tup us)).push (PySem.HandSPX.excO C hp.objs.size), g, dr, tk, os⟩ := Inv.laid (t' := tk) I1 kept up (exo_ok at1)
  have rel : Vals (V.ref (hp.objs.size + 1) :: (vs ++ [])) (Value.ref (hp.objs.size + 1) :: us) := .cons rfl (by rw [List.append_nil]; exact r1)
  have n1 : (Value.ref (hp.objs.size + 1) :: us).length = ps.length := by rw [← rel.length]; exact F.len _ _ _ _ want
  have bd := hb _ (Value.ref (hp.objs.size + 1) :: us) J.kIn (by rw [List.append_nil]; exact n1)
  rw [List.append_nil] at bd
  have few : us.length ≤ sizeLine := by have e1 := r1.length; have e2 := sizeLine_eq; omega
  refine wpAny_call (PySem.HandSPX.call_own PySem.F.excBase_IndexError (fun _ => rfl) (I1.kIn _ _ hC) (PySem.W.looks_findIn I1.kIn iC) (fun self => PySem.W.bind_fn I1.kIn self tI) few
    (codeAny_mono (F.run _ X.stack _ _ ⟨Value.ref (hp.objs.size + 1) :: us, []⟩ _ _ _ (fun _ _ _ => False) (hr.make C us []) (J.env0.make C us []) bd rel want) fun r s2 got => ?_))
  cases r with
  | error er => exact hx pins σ _ _ er s2 J got
  | ok fl =>
    cases fl with
    | next => exact got.elim
    | brk => exact got.elim
    | cont => exact got.elim
    | ret u =>
      obtain ⟨v, H2, os2, bare2, un2, ok2, rv, ev, d, fs, ea, ed, hd1, q2⟩ := got
      subst ev
      obtain ⟨h2, g2, d2, t2, os3⟩ := s2
      exact ⟨rv, mk_end (raises_own T.ex T.ty) I1 up kept un2 ok2 os2 bare2 ea ed hd1 q2⟩
end
end Rs
/-! cls(e, ..) where cls is a local name that holds a class of the text -/
namespace Rs
open PySem PySem.Spec PyProof.Rows L2
section
variable {X : Cx} {CX : CXT} {k i : Nat} {f C : Addr} {fd : FuncData} {ps : List Str} {sp : Sp} {E : XK} {ds : List Value} {dvs : List V} {x : Str} {e : Expr} {es : List Expr} {t : TA} {p pos : Pos}
def tMakeV (i : Nat) (C : Addr) (sp : Sp) (dvs : List V) (E : XK) (t : TA) : TE := fun σ H Q => σ[i]? = some (some (.ref C)) ∧ tMake C sp dvs E t σ H Q
theorem pe_makeV (M : Mk X.K C f) (F : FnOk X.prog X.w X.K X.mg X.base CX k f fd ps sp) (hr : Room (k + 1) X.A) (hN : X.N[i]? = some x) (hv : Vis X.env.scope x) (hb : Binds X.K fd ps ds) (hd : Vals dvs ds) (hx : Passes CX X E) (ha : PA X (e :: es) t)
    (hdb : (x == ("__debug__" : Str)) = false := by decide) (hcd : (x == ("__classdict__" : Str)) = false := by decide) (he : starEach (e :: es) X.env = (false, eval e X.env) :: starEach es X.env := by rfl) (hpl : (backTo pos (starEach es X.env)).any (·.1) = false := by rfl) :
    PE X (.Call (.Name x p) (e :: es) [] pos) (tMakeV i C sp dvs E t) := by
  refine ⟨fun pins s σ H Q I h => ?_⟩
  have name := (pe_var (pos := p) (i := i) hN hv hdb hcd).run pins s σ H (fun v H1 => v = .ref C ∧ H1 = H) I ⟨.ref C, h.1, rfl, rfl⟩
  refine wpAny_Call_Name_kw (thn name fun u s1 res => ?_)
  obtain ⟨v, H1, I1, r1, ev, eH⟩ := res
  subst ev eH
  cases r1
  refine PySem.W.callWith_K (h₀ := X.base) I.ok.mod.kin M.kp (thn (ha.run pos pins s1 σ _ _ I1 h.2) fun us s2 got => ?_) he hpl
  obtain ⟨vs, H2, I2, r, q⟩ := got
  exact ⟨I2.kIn, run_make M F hr hb hd hx I2 r q⟩
theorem pe_makeV0 (M : Mk X.K C f) (F : FnOk X.prog X.w X.K X.mg X.base CX k f fd ps sp) (hr : Room (k + 1) X.A) (hN : X.N[i]? = some x) (hv : Vis X.env.scope x) (hb : Binds X.K fd ps ds) (hd : Vals dvs ds) (hx : Passes CX X E)
    (hdb : (x == ("__debug__" : Str)) = false := by decide) (hcd : (x == ("__classdict__" : Str)) = false := by decide) : PE X (.Call (.Name x p) [] [] pos) (tMakeV i C sp dvs E tNil) := by
  refine ⟨fun pins s σ H Q I h => ?_⟩
  have name := (pe_var (pos := p) (i := i) hN hv hdb hcd).run pins s σ H (fun v H1 => v = .ref C ∧ H1 = H) I ⟨.ref C, h.1, rfl, rfl⟩
  refine wpAny_Call_Name_kw (thn name fun u s1 res => ?_)
  obtain ⟨v, H1, I1, r1, ev, eH⟩ := res
  subst ev eH
  cases r1
  exact PySem.W.callWith_K0 I1.kIn M.kp (run_make (us := []) M F hr hb hd hx I1 .nil h.2)
end
end Rs
/-! a, b, .. = l, l a list (the kit's pg_tup speaks of tuples) -/
namespace Rs
open PySem PySem.Spec PyProof.Rows L2
section
variable {prog : Program} {w : World} {A : Around} {E : Value → Shared → Prop}
/-- n things drawn from a list's iterator -/
theorem draws_list {it l : Addr} {items : Array Value} (ne : l ≠ it) : ∀ (n i : Nat) (s : Shared) (Q : List Value → Shared → Prop), s.heap.IsListIter it l i → s.heap.IsList l items → i + n ≤ items.size →
    (∀ h2, h2.IsListIter it l (i + n) → Heap.SameBut it s.heap h2 → Q ((items.toList.drop i).take n) { s with heap := h2 }) → wpAny (model prog w) A (draw (.ref it) n) Q E s
  | 0, i, s, Q, at1, _, _, go => by
    show wpAny _ _ (pure []) Q E s
    refine wpAny_pure ?_
    simpa using go s.heap at1 (Heap.SameBut.refl ..)
  | n + 1, i, s, Q, at1, il, few, go => by
    have lt : i < items.size := by omega
    have one : items[i]? = some items[i] := by simp [lt]
    show wpAny _ _ (pyNext (.ref it) >>= _) Q E s
    refine wpAny_bind (wpAny_pyNext_list_item at1 il one fun h1 at2 s1 => wpAny_bind (wpAny_holding ?_))
    have il2 : h1.IsList l items := by
      obtain ⟨o, ho, hc, k, hd⟩ := id il
      exact ⟨o, (s1.2 l ne).trans ho, hc, k, hd⟩
    refine draws_list ne n (i + 1) _ _ at2 il2 (by omega) fun h2 at3 s2 => wpAny_pure ?_
    have got := go h2 (by rw [← Nat.add_assoc, Nat.add_right_comm]; exact at3) (s1.trans s2)
    have cut : items.toList.drop i = items[i] :: items.toList.drop (i + 1) := by simp [List.drop_eq_getElem_cons, lt]
    rw [cut, List.take_succ_cons] at got
    exact got
theorem unpack_list {l : Addr} {items : Array Value} {ts : List (Bool × (Value → Sem Unit))} {s : Shared} {Q : Unit → Shared → Prop} (calm : A.handled = none) (il : s.heap.IsList l items) (same : ts.length = items.size) (plain : ts.findIdx? (·.1) = none)
    (go : ∀ h2, Heap.ExtBut s.heap.objs.size s.heap h2 → wpAny (model prog w) A (assignInOrder (ts.map (·.2)) items.toList) Q E { s with heap := h2 }) : wpAny (model prog w) A (unpack (.ref l) ts) Q E s := by
  have ne : l ≠ s.heap.objs.size := by
    obtain ⟨o, ho, _⟩ := id il
    exact Nat.ne_of_lt (Heap.lt_size ho)
  unfold unpack
  rw [same, plain]
  refine wpAny_bind (wpAny_holding ?_)
  unfold unpackItems
  refine wpAny_bind ?_
  unfold notIterableAtAll
  refine wpAny_bind (wpAny_specialOf il.typeIs PySem.F.slot_list_iter.lookup (wpAny_pure ?_))
  simp only [Bool.false_eq_true, if_false]
  refine wpAny_bind (wpAny_holding (wpAny_pyIter_list il ?_))
  have il1 : (s.heap.push { cls := .type "list_iterator", data := .fields #[.ref l, .int 0 0] }).IsList l items := by
    obtain ⟨o, ho, hc, k, hd⟩ := id il
    exact ⟨o, Heap.get?_push_of_some _ ho, hc, k, hd⟩
  have at0 : (s.heap.push { cls := .type "list_iterator", data := .fields #[.ref l, .int 0 0] }).IsListIter s.heap.objs.size l 0 := ⟨_, Heap.get?_push_size _ rfl, rfl, rfl⟩
  refine wpAny_bind (wpAny_holding (draws_list ne items.size 0 _ _ at0 il1 (by omega) fun h1 at1 s1 => ?_))
  have all : List.take items.size (List.drop 0 items.toList) = items.toList := by
    rw [List.drop_zero]
    exact List.take_of_length_le (by simp)
  rw [all, if_neg (by simp)]
  have il2 : h1.IsList l items := by
    obtain ⟨o, ho, hc, k, hd⟩ := id il1
    exact ⟨o, (s1.2 l ne).trans ho, hc, k, hd⟩
  refine wpAny_bind (wpAny_holding (wpAny_pyNext_list_end calm at1 il2 (by simp) fun h2 x2 => ?_))
  simp only [Option.isSome_none, Bool.false_eq_true, if_false]
  exact wpAny_pure (go h2 fun b o hb z => x2 b o hb (s1.extBut b o hb (Heap.get?_push_of_some _ z)))
end
section
variable {X : Cx} {pos : Pos}
def gTupL (K : PySem.W.Frag) (n : Nat) (t : TGs) : TG := fun v σ H Q => ∃ a xs, v = .ref a ∧ SqL K H a xs ∧ xs.length = n ∧ t xs σ H Q
theorem pg_tupL {es : List Expr} {k : Nat} {t : TGs} {n : Nat} (calm : X.calm = true) (h : PGs X es t) (hn : (assignEach es X.env).length = n := by rfl) (hst : (assignEach es X.env).findIdx? (·.1) = none := by rfl) : PG X (.Tuple es k pos) (gTupL X.K n t) := by
  refine ⟨fun pins s σ H v u Q I r hw => ?_⟩
  obtain ⟨a, xs, e1, hq, hl, hw⟩ := hw
  subst e1
  cases r
  obtain ⟨its, rv, pl, hz⟩ := I.list hq
  rw [assign_Tuple]
  refine wpAny_bind (wpAny_standAt (unpack_list (I.ok.hd calm) pl.isList (by rw [hn, ← hl, rv.length]; simp) hst fun h2 x2 => ?_))
  have J : Inv X pins σ H { s with heap := h2 } := I.kept (t' := s.toks) fun b o z => x2 b o (Nat.ne_of_lt (Heap.lt_size z)) z
  exact h.run pins _ σ H xs _ Q J (by simpa using rv) hw
end
end Rs
/-! o(e, ..) by an own __call__ -/
namespace Rs
open PySem PySem.Spec PyProof.Rows L2
theorem callWith_ins {M : Model} {A : Around} {E : Value → Shared → Prop} {s : Shared} {pos : Pos} {x C : Addr} {env : Env} {e : Expr} {es : List Expr} {Q : Value → Shared → Prop}
    (run : wpAny M A (spliced (backTo pos (starEach (e :: es) env))) (fun vs s1 => (∃ ox od, PySem.W.InstAt s1.heap x ox C od ∧ ox.data = .plain) ∧ wpAny M A (call (.ref x) ([] ++ vs)) Q E s1) E s)
    (he : starEach (e :: es) env = (false, eval e env) :: starEach es env) (hp : (backTo pos (starEach es env)).any (·.1) = false) : wpAny M A (callWith pos (.ref x) [] (backTo pos (starEach (e :: es) env)) []) Q E s := by
  rw [he] at run ⊢
  have flat : ((backTo pos ((false, eval e env) :: starEach es env)).any (·.1) || ([] : List (Option Str × Sem Value)).any (·.1.isNone)) = false := by
    show ((false || (backTo pos (starEach es env)).any (·.1)) || false) = false
    rw [hp]
    rfl
  unfold callWith
  have args : wpAny M A (evalArgs (.ref x) true (backTo pos ((false, eval e env) :: starEach es env)) []) (fun ar s1 => (∃ ox od, PySem.W.InstAt s1.heap x ox C od ∧ ox.data = .plain) ∧ wpAny M A (call (.ref x) ([] ++ ar.pos) ar.kw) Q E s1) E s := Calls.evalArgs_plain run
  refine wpAny_bind (wpAny_holding (wpAny_mono args (fun ar s1 both => ?_) fun _ _ z => z))
  obtain ⟨⟨ox, od, J, pl⟩, go⟩ := both
  refine wpAny_bind (wpAny_standAt ?_)
  have keep := PySem.W.kco_keeper (M := M) J pl
  simp only [flat]
  refine wpAny_bind (keep.here ?_)
  exact wpAny_bind (wpAny_mono (wpAny_operateT go) (fun r s2 fin => wpAny_bind (wpAny_holding (wpAny_point (wpAny_pure fin)))) fun _ _ z => z)
section
variable {X : Cx} {CX : CXT} {C g : Addr} {n : Nat} {sp : Sp} {E : XK}
def tCallO (C : Addr) (sp : Sp) (E : XK) (tf : TE) (t : TA) : TE := fun σ H Q => tf σ H fun x H1 => ∃ a dx fs, x = .ref a ∧ H1 a = some (.ins C dx fs) ∧ t σ H1 fun vs H2 => (∃ dx fs, H2 a = some (.ins C dx fs)) ∧ sp (.ref a :: vs) H2 Q E
theorem pe_callO {f e : Expr} {es : List Expr} {tf : TE} {t : TA} {pos : Pos} (hf : PE X f tf) (M : Meth X.K C "__call__" g) (hfn : PySem.W.fnIn X.K g = true) (F : FnR X.prog X.w X.K X.mg X.base CX n g sp) (hr : Room n X.A) (hx : Passes CX X E) (ha : PA X (e :: es) t)
    (hc : eval (.Call f (e :: es) [] pos) X.env = (do callWith pos (← eval f X.env) [] (backTo pos (starEach (e :: es) X.env)) (backToKw pos (keywordEach [] X.env))) := by rfl)
    (he : starEach (e :: es) X.env = (false, eval e X.env) :: starEach es X.env := by rfl) (hp : (backTo pos (starEach es X.env)).any (·.1) = false := by rfl) : PE X (.Call f (e :: es) [] pos) (tCallO C sp E tf t) := by
  refine ⟨fun pins s σ H Q I h => Call_ (thn (hf.run pins s σ H _ I h) fun v s1 hv => ?_) hc⟩
  obtain ⟨x, H1, I1, r1, a, dx, fs, rfl, hi, h⟩ := hv
  cases (show v = Value.ref a from r1)
  refine callWith_ins (C := C) (thn (ha.run pos pins s1 σ H1 _ I1 h) fun us s2 hu => ?_) he hp
  obtain ⟨vs, H2, I2, rr, ⟨dx2, fs2, hi2⟩, q⟩ := hu
  obtain ⟨od2, J2⟩ := ins_obj I2 hi2
  exact ⟨⟨_, _, J2, rfl⟩, wpAny_call (PySem.W.kco_code I2.kIn J2 rfl M.at_ M.fn hfn (run_fnR (us := .ref a :: us) (vs := .ref a :: vs) F hr hx I2 (.cons rfl rr) q))⟩
end
end Rs
/-! a[i] op= p, where a is a list and its item an instance whose class has op but no in-place op. -/
namespace Rs
open PySem PySem.Spec PyProof.Rows L2
/-- the class's chain is itself and object -/
def mro2 (K : PySem.W.Frag) (C : Addr) : Bool := (PySem.W.clsIn K C).any fun cd => cd.mro == [.ref C, .type "object"]
theorem fillsI_none {K : PySem.W.Frag} {M : Model} {C : Addr} {h : Heap} {nm : String} {add : Bool} (X : K.In h) (hm : mro2 K C = true) (hs : PySem.W.findIn K (.ref C) (dunderI nm) = some none) (ho : PySem.W.findIn K (.type "object") (dunderI nm) = some none) : PySem.W.Looks M h (fillsInplaceSlot (.ref C) nm add) false := by
  intro A Q E s k q
  obtain ⟨cd, hc, hm⟩ := PySem.W.any_some hm
  have hm := beq_iff_eq.mp hm
  unfold fillsInplaceSlot
  dsimp only
  refine wpAny_bind ((PySem.W.looks_clsIn X hc).andThen (f := fun cd => pure cd.mro) .now A _ E s k ?_)
  rw [hm, List.anyM_cons]
  refine wpAny_bind (wpAny_bind (PySem.W.looks_findIn X hs A _ E s k ?_))
  dsimp only
  refine wpAny_pure ?_
  try dsimp only
  rw [List.anyM_cons]
  refine wpAny_bind (wpAny_bind (PySem.W.looks_findIn X ho A _ E s k ?_))
  dsimp only
  refine wpAny_pure ?_
  try dsimp only
  rw [List.anyM_nil]
  exact wpAny_pure q
section
variable {prog : Program} {w : World} {A : Around} {E : Value → Shared → Prop} {s : Shared} {K : PySem.W.Frag} {x C L f : Addr} {h₀ : Heap} {m : Str → Option Value} {ox : Obj} {od : Option Obj}
theorem inplace_K {op : Operator} {b : Value} {Q : Value → Shared → Prop} (F : Fr h₀ L s.heap m) (X₀ : K.In h₀) (I : PySem.W.InstAt s.heap x ox C od) (tyB : PySem.W.Looks (model prog w) s.heap (typeOf b) (.ref C)) (hc : PySem.W.selfFirst K C = true)
    (chain : mro2 K C = true) (hi : PySem.W.findIn K (.ref C) (dunderI op.info.2) = some none) (ho : PySem.W.findIn K (.type "object") (dunderI op.info.2) = some none)
    (meth : PySem.W.findIn K (.ref C) (PySem.dunder op.info.2) = some (some (.ref f))) (isF : PySem.W.isFn K (.ref f) = true)
    (h : wpAny (model prog w) A (call (.ref f) [.ref x, b]) (PySem.W.CmpBack Q) E s) : wpAny (model prog w) A (inplaceOp op (.ref x) b) Q E s := by
  have X := X₀.keeps F.keep
  obtain ⟨cd, isCd, first⟩ := PySem.W.any_some hc
  obtain ⟨more, first⟩ : ∃ more, cd.mro = .ref C :: more := by
    cases q : cd.mro with
    | nil => rw [q] at first; cases first
    | cons a r => rw [q] at first; exact ⟨r, by rw [List.head?_cons] at first; cases (beq_iff_eq.mp first); rfl⟩
  unfold inplaceOp
  refine wpAny_holding (wpAny_bind (I.type.here (wpAny_bind ((fillsI_none X chain hi ho).here ?_))))
  simp only [Bool.false_eq_true, if_false]
  refine wpAny_bind ?_
  unfold binaryOp1
  refine wpAny_bind (I.type.here (wpAny_bind (tyB.here (wpAny_bind ((PySem.W.fills_K X isCd first meth).here ?_)))))
  simp only [beq_self_eq_true, if_true]
  refine wpAny_bind (wpAny_pure ?_)
  simp only [Bool.and_false, Bool.false_eq_true, if_false, Bool.false_and]
  refine wpAny_bind (wpAny_pure ?_)
  simp only [Bool.false_eq_true, if_false]
  refine wpAny_bind (m := tryMethod (.ref x) _ b) ?_
  unfold tryMethod
  refine wpAny_bind (PySem.W.special_fn X I meth (beq_iff_eq.mp isF) (wpAny_mono h (fun v s' val => ?_) fun _ _ e => e))
  cases v <;> first | exact val.elim | exact wpAny_pure (wpAny_pure (wpAny_pure val))
end
section
variable {X : Cx} {CX : CXT} {C g : Addr} {n : Nat} {sp : Sp} {E : XK}
theorem ip_binM {op : Operator} (M : Meth X.K C (dunder op.info.snd) g) (hc : PySem.W.selfFirst X.K C = true) (hm : mro2 X.K C = true) (hi : PySem.W.findIn X.K (.ref C) (dunderI op.info.2) = some none) (ho : PySem.W.findIn X.K (.type "object") (dunderI op.info.2) = some none)
    (F : FnR X.prog X.w X.K X.mg X.base CX n g sp) (hr : Room n X.A) (hx : Passes CX X E) : PIp X op (rBinM C sp E) := by
  intro pins s σ H x y v u Q I rx ry h
  obtain ⟨a, dx, fs, b, dy, gs, rfl, rfl, ha, hb, q⟩ := h
  cases (show v = Value.ref a from rx)
  cases (show u = Value.ref b from ry)
  obtain ⟨ox, od, J⟩ := ins_at I ha
  obtain ⟨oy, ody, Jb⟩ := ins_at I hb
  obtain ⟨m, hF⟩ := I.fr
  refine inplace_K hF I.ok.mod.kin J Jb.type hc hm hi ho M.at_ M.fn ?_
  refine wpAny_mono (wpAny_call (run_fnR (us := [.ref a, .ref b]) (vs := [.ref a, .ref b]) F hr hx I (.cons rfl (.cons rfl .nil)) q)) (fun w s' z => ?_) fun _ _ x => x
  obtain ⟨z', H', I', rz, qz⟩ := z
  exact SlX.cmpback rz ⟨z', H', I', rz, qz⟩
/-- xs[k], k at least 0 -/
def rGetL (K : PySem.W.Frag) : V → V → Hp → VK → Prop := fun x y H Q => ∃ p xs k v, x = .ref p ∧ y = .int k ∧ SqL K H p xs ∧ 0 ≤ k ∧ xs[k.toNat]? = some v ∧ Q v H
theorem get_list : PGet X (rGetL X.K) := by
  intro pins s σ H o i ov iv Q I ro ri h
  obtain ⟨p, xs, k, v, rfl, rfl, hq, k0, he, q⟩ := h
  cases ro
  obtain ⟨t, rfl⟩ := ri
  obtain ⟨its, r, pl, hz⟩ := I.list hq
  obtain ⟨w, ew, rw'⟩ := r.get he
  have hl := r.length
  have hn := line63
  have lt : k.toNat < xs.length := (List.getElem?_eq_some_iff.mp he).1
  exact wpAny_getItem_list pl.isList k0 (by omega) (by simpa using ew) ⟨v, H, I, rw', q⟩
end
end Rs
/-! o.f(e, ..), where o's field f holds an object with an own __call__ -/
namespace Rs
open PySem PySem.Spec PyProof.Rows L2
section
variable {X : Cx} {CX : CXT} {C g : Addr} {n : Nat} {sp : Sp} {E : XK}
theorem getmeth_fld {pins : _} {σ : _} {H : Hp} {s : Shared} {A : Around} {a C1 dx : Addr} {fs : List (Str × V)} {f : Str} {v : V} {pl : Sem Bool} {Q : Value × List Value → Shared → Prop} {E : Value → Shared → Prop} (I : Inv X pins σ H s) (e : H a = some (.ins C1 dx fs)) (c : Cls X.K C1) (n : NoAttr X.K C1 f) (l : fs.lookup f = some v)
    (h : ∀ u s', Inv X pins σ H s' → RelV v u → Q (u, []) s') : wpAny (model X.prog X.w) A (getMethod (.ref a) f pl) Q E s := by
  obtain ⟨mA, O, r, _, _, _⟩ := ins_get I.hok e
  obtain ⟨od, J, hl⟩ := O.look
  refine PySem.W.method_usual (r := none) I.kIn J (PySem.W.plainGet_of (c.get f)).1 (PySem.W.plainGet_of (c.get f)).2 n rfl ?_
  exact getattr_ok I e c n l fun u s' I' ru => h u s' I' ru
def tCallF (K : PySem.W.Frag) (f : Str) (C : Addr) (sp : Sp) (E : XK) (ta : TE) (t : TA) : TE := fun σ H Q => ta σ H fun x H1 => ∃ a C1 dx fs v, x = .ref a ∧ H1 a = some (.ins C1 dx fs) ∧ Cls K C1 ∧ NoAttr K C1 f ∧ fs.lookup f = some v ∧
  ∃ b dy gs, v = .ref b ∧ H1 b = some (.ins C dy gs) ∧ t σ H1 fun vs H2 => (∃ dy gs, H2 b = some (.ins C dy gs)) ∧ sp (.ref b :: vs) H2 Q E
theorem pe_callF {K : PySem.W.Frag} (eK : X.K = K) {o e : Expr} {es : List Expr} {f : Str} {ta : TE} {t : TA} {pos apos : Pos} {pl : Sem Bool} (ho : PE X o ta) (M : Meth K C "__call__" g) (hfn : PySem.W.fnIn K g = true) (F : FnR X.prog X.w K X.mg X.base CX n g sp) (hr : Room n X.A) (hx : Passes CX X E) (ha : PA X (e :: es) t)
    (hst : starEach (e :: es) X.env = (false, eval e X.env) :: starEach es X.env := by rfl) (hpl : (backTo pos (starEach es X.env)).any (·.1) = false := by rfl)
    (ht : eval (.Call (.Attribute o f apos) (e :: es) [] pos) X.env = (do
      let ov ← eval o X.env
      standAt apos.atName
      let (f, first) ← holding [ov] (getMethod ov f pl)
      callWith pos f first (backTo pos (starEach (e :: es) X.env)) (backToKw pos (keywordEach [] X.env))) := by rfl) : PE X (.Call (.Attribute o f apos) (e :: es) [] pos) (tCallF K f C sp E ta t) := by
  subst eK
  refine ⟨fun pins s σ H Q I h => ?_⟩
  refine PySem.W.methodCall_KW (pl := pl) (thn (ho.run pins s σ H _ I h) fun u s1 res => ?_) ht
  obtain ⟨x, H1, I1, rx, a, C1, dx, fs, v, ex, ea, c, nA, l, b, dy, gs, ev, eb, q⟩ := res
  subst ex ev
  cases (show u = Value.ref a from rx)
  refine getmeth_fld I1 ea c nA l fun u2 s2 I2 r2 => ?_
  cases (show u2 = Value.ref b from r2)
  refine callWith_ins (C := C) (thn (ha.run pos pins s2 σ H1 _ I2 q) fun us s3 hu => ?_) hst hpl
  obtain ⟨vs, H2, I3, rr, ⟨dx2, fs2, hi2⟩, q⟩ := hu
  obtain ⟨od2, J2⟩ := ins_obj I3 hi2
  exact ⟨⟨_, _, J2, rfl⟩, wpAny_call (PySem.W.kco_code I3.kIn J2 rfl M.at_ M.fn hfn (run_fnR (us := .ref b :: us) (vs := .ref b :: vs) F hr hx I3 (.cons rfl rr) q))⟩
end
end Rs
/-! own exceptions as values: made, asked by isinstance, their field read -/
namespace Rs
open PySem PySem.Spec PyProof.Rows L2
section
variable {X : Cx} {CX : CXT} {k : Nat} {C fI : Addr} {fd : FuncData} {ps : List Str} {sp : Sp} {x : Str} {p pos : Pos} {e : Expr} {es : List Expr} {ta : TA}
def tExo (C : Addr) (sp : Sp) (t : TA) : TE := fun σ H Q => t σ H fun vs H1 => vs.length ≤ 1000 ∧ ∀ a, H1 a = none → sp (.ref a :: vs) (upd H1 a (exo a C none)) (fun v H2 => v = .non ∧ Q (.ref a) H2) (fun _ _ _ => False)
theorem pe_oex (T : OexC X.K C) (iC : PySem.W.findIn X.K (.ref C) "__init__" = some (some (.ref fI))) (tI : PySem.W.typeIn X.K (.ref fI) = some (.type "function"))
    (F : FnOk X.prog X.w X.K X.mg X.base CX k fI fd ps sp) (hr : Room (k + 1) X.A) (hb : Binds X.K fd ps []) (hx : Passes CX X (fun _ _ _ => False)) (hg : Gl X x) (hm : X.mg x = some (.ref C)) (ha : PA X (e :: es) ta)
    (hdb : (x == ("__debug__" : Str)) = false := by decide) (he : starEach (e :: es) X.env = (false, eval e X.env) :: starEach es X.env := by rfl) (hpl : (backTo pos (starEach es X.env)).any (·.1) = false := by rfl) :
    PE X (.Call (.Name x p) (e :: es) [] pos) (tExo C sp ta) := by
  refine ⟨fun pins s σ H Q I h => ?_⟩
  obtain ⟨nm, q, N, bs, bm, sn, sub, ab, col, dd, k0, k1, k2, k3, k5, hC, hbm⟩ := T.cls
  refine wpAny_Call_Name_kw (ld_glob I hg hm ?_ hdb)
  refine PySem.W.callWith_K (h₀ := X.base) I.ok.mod.kin T.kC (thn (ha.run pos pins s σ H _ I h) fun us s1 res => ?_) he hpl
  obtain ⟨vs, H1, I1, r1, hz, q1⟩ := res
  refine ⟨I1.kIn, ?_⟩
  show wpAny _ _ (call (.ref C) us) _ _ _
  obtain ⟨hp, g, dr, tk, os⟩ := s1
  have up : hp.objs.size ≤ hp.objs.size + 1 := Nat.le_succ _
  have want := q1 (hp.objs.size + 1) (I1.hok.fresh up)
  have kept : ∀ b o, hp.get? b = some o → ((hp.push (PySem.W.kdv_tup us)).push (PySem.HandSPX.excO C hp.objs.size)).get? b = some o := fun b o z => Heap.get?_push_of_some _ (Heap.get?_push_of_some _ z)
  have at1 : ((hp.push (PySem.W.kdv_tup us)).push (PySem.HandSPX.excO C hp.objs.size)).get? (hp.objs.size + 1) = some (PySem.HandSPX.excO C hp.objs.size) := by heap_get
  have J : Inv X pins σ (upd H1 (hp.objs.size + 1) (exo (hp.objs.size + 1) C none)) ⟨(hp.push (PySem.W.kdv_tup us)).push (PySem.HandSPX.excO C hp.objs.size), g, dr, tk, os⟩ := Inv.laid (t' := tk) I1 kept up (exo_ok at1)
  have rel : Vals (V.ref (hp.objs.size + 1) :: vs) (Value.ref (hp.objs.size + 1) :: us) := .cons rfl r1
  have n1 : (Value.ref (hp.objs.size + 1) :: us).length = ps.length := by rw [← rel.length]; exact F.len _ _ _ _ want
  have bd := hb _ (Value.ref (hp.objs.size + 1) :: us) J.kIn (by rw [List.append_nil]; exact n1)
  rw [List.append_nil] at bd
  have few : us.length ≤ sizeLine := by have e1 := r1.length; have e2 := sizeLine_eq; omega
  refine wpAny_call (PySem.HandSPX.call_own PySem.F.excBase_ValueError (fun Y => PySem.HandSPX.refsVE_contains Y bm hbm) (I1.kIn _ _ hC) (PySem.W.looks_findIn I1.kIn iC) (fun self => PySem.W.bind_fn I1.kIn self tI) few
    (codeAny_mono (F.run _ X.stack _ _ ⟨Value.ref (hp.objs.size + 1) :: us, []⟩ _ _ _ (fun _ _ _ => False) (hr.make C us []) (J.env0.make C us []) bd rel want) fun r s2 got => ?_))
  cases r with
  | error er => exact hx pins σ _ _ er s2 J got
  | ok fl =>
    cases fl with
    | next => exact got.elim
    | brk => exact got.elim
    | cont => exact got.elim
    | ret u =>
      obtain ⟨v, H2, J2, rv, ev, q2⟩ := J.after got
      subst ev
      exact ⟨rv, .ref (hp.objs.size + 1), H2, J2, rfl, q2⟩
theorem pe_oei (T : OexI X.K C) (iC : PySem.W.findIn X.K (.ref C) "__init__" = some (some (.ref fI))) (tI : PySem.W.typeIn X.K (.ref fI) = some (.type "function"))
    (F : FnOk X.prog X.w X.K X.mg X.base CX k fI fd ps sp) (hr : Room (k + 1) X.A) (hb : Binds X.K fd ps []) (hx : Passes CX X (fun _ _ _ => False)) (hg : Gl X x) (hm : X.mg x = some (.ref C)) (ha : PA X (e :: es) ta)
    (hdb : (x == ("__debug__" : Str)) = false := by decide) (he : starEach (e :: es) X.env = (false, eval e X.env) :: starEach es X.env := by rfl) (hpl : (backTo pos (starEach es X.env)).any (·.1) = false := by rfl) :
    PE X (.Call (.Name x p) (e :: es) [] pos) (tExo C sp ta) := by
  refine ⟨fun pins s σ H Q I h => ?_⟩
  obtain ⟨nm, q, N, bs, sn, sub, ab, col, dd, k0, k1, k2, k3, k5, hC⟩ := T.cls
  refine wpAny_Call_Name_kw (ld_glob I hg hm ?_ hdb)
  refine PySem.W.callWith_K (h₀ := X.base) I.ok.mod.kin T.kp (thn (ha.run pos pins s σ H _ I h) fun us s1 res => ?_) he hpl
  obtain ⟨vs, H1, I1, r1, hz, q1⟩ := res
  refine ⟨I1.kIn, ?_⟩
  show wpAny _ _ (call (.ref C) us) _ _ _
  obtain ⟨hp, g, dr, tk, os⟩ := s1
  have up : hp.objs.size ≤ hp.objs.size + 1 := Nat.le_succ _
  have want := q1 (hp.objs.size + 1) (I1.hok.fresh up)
  have kept : ∀ b o, hp.get? b = some o → ((hp.push (PySem.W.kdv_tup us)).push (PySem.HandSPX.excO C hp.objs.size)).get? b = some o := fun b o z => Heap.get?_push_of_some _ (Heap.get?_push_of_some _ z)
  have at1 : ((hp.push (PySem.W.kdv_tup us)).push (PySem.HandSPX.excO C hp.objs.size)).get? (hp.objs.size + 1) = some (PySem.HandSPX.excO C hp.objs.size) := by heap_get
  have J : Inv X pins σ (upd H1 (hp.objs.size + 1) (exo (hp.objs.size + 1) C none)) ⟨(hp.push (PySem.W.kdv_tup us)).push (PySem.HandSPX.excO C hp.objs.size), g, dr, tk, os⟩ := Inv.laid (t' := tk) I1 kept up (exo_ok at1)
  have rel : Vals (V.ref (hp.objs.size + 1) :: vs) (Value.ref (hp.objs.size + 1) :: us) := .cons rfl r1
  have n1 : (Value.ref (hp.objs.size + 1) :: us).length = ps.length := by rw [← rel.length]; exact F.len _ _ _ _ want
  have bd := hb _ (Value.ref (hp.objs.size + 1) :: us) J.kIn (by rw [List.append_nil]; exact n1)
  rw [List.append_nil] at bd
  have few : us.length ≤ sizeLine := by have e1 := r1.length; have e2 := sizeLine_eq; omega
  refine wpAny_call (PySem.HandSPX.call_own PySem.F.excBase_IndexError (fun _ => rfl) (I1.kIn _ _ hC) (PySem.W.looks_findIn I1.kIn iC) (fun self => PySem.W.bind_fn I1.kIn self tI) few
    (codeAny_mono (F.run _ X.stack _ _ ⟨Value.ref (hp.objs.size + 1) :: us, []⟩ _ _ _ (fun _ _ _ => False) (hr.make C us []) (J.env0.make C us []) bd rel want) fun r s2 got => ?_))
  cases r with
  | error er => exact hx pins σ _ _ er s2 J got
  | ok fl =>
    cases fl with
    | next => exact got.elim
    | brk => exact got.elim
    | cont => exact got.elim
    | ret u =>
      obtain ⟨v, H2, J2, rv, ev, q2⟩ := J.after got
      subst ev
      exact ⟨rv, .ref (hp.objs.size + 1), H2, J2, rfl, q2⟩
/-- C() of a class without an own __init__ -/
theorem pe_exc0 {bmB : List Value} {B newId initId : String} (F : ExcBaseFacts B newId initId bmB) (q : PySem.W.excIn X.K C bmB newId = true) (gC : X.mg x = some (.ref C)) (kC : PySem.W.keepIn X.K (.ref C) = true) (hg : Gl X x)
    (hdb : (x == ("__debug__" : Str)) = false := by decide) : PE X (.Call (.Name x p) [] [] pos) (fun σ H Q => ∀ a, H a = none → Q (.ref a) (upd H a (ExO (.ref C) a))) := by
  refine ⟨fun pins s σ H Q I h => ?_⟩
  refine wpAny_Call_Name_kw (ld_glob I hg gC ?_ hdb)
  have I1 := I
  refine PySem.W.callWith_K0 I.kIn kC ?_
  obtain ⟨bm, N, nm, qn, bs, hdct, sn, sub, ab, col, dd, k0, k1, k2, k3, k5, mN, hC, hN, hni, T⟩ := exc_obj I1.kIn q
  refine wpAny_call_exc_subT F T hC hN hni (fun h' a hm => ?_) (by show 0 ≤ sizeLine; omega)
  have hn : H a = none := I1.hok.gone hm.new
  obtain ⟨t, ht, _, _⟩ := hm.there
  exact ⟨.ref a, upd H a (ExO (.ref C) a), I1.laidN hm.keeps hm.new hn (exO_ok ht ⟨rfl, rfl⟩ rfl rfl rfl (show 4 < 6 by decide)), rfl, h a hn⟩
end
/-- at a: an exception of the class at C; its field, where it has one -/
def ErrA (H : Hp) (a C : Addr) (o : Option (Str × V)) : Prop := (∃ dx f y, o = some (f, y) ∧ H a = some (exo a C (some dx)) ∧ H dx = some (exd dx [(f, y)])) ∨ (o = none ∧ H a = some (ExO (.ref C) a))
section
variable {X : Cx} {pins : List (Addr × Obj)} {σ : L2.St} {H : Hp} {s : Shared} {a C : Addr} {o : Option (Str × V)}
theorem err_at (I : Inv X pins σ H s) (h : ErrA H a C o) : ∃ oe od, PySem.W.InstAt s.heap a oe C od ∧ ∀ f y, o = some (f, y) → ∃ (dx : Addr) (od1 : Obj) (u : Value), od = some od1 ∧ PySem.W.lookIn f od1 = some (some u) ∧ RelV y u := by
  rcases h with ⟨dx, f, y, rfl, ha, hd⟩ | ⟨rfl, ha⟩
  · obtain ⟨t1, ho⟩ := exo_at I.hok ha
    obtain ⟨mA, hns, rel⟩ := exd_at I.hok hd
    obtain ⟨od, ho2, hl⟩ := lookIn_ns hns
    refine ⟨_, some od, ⟨ho, rfl, by unfold PySem.W.notCls; rfl, ho2⟩, fun f' y' e => ?_⟩
    cases e
    obtain ⟨u, hu, ru⟩ := RelO.some_of (v := y) (o := mA f) (by
      have z := rel f
      rw [lookup_put, if_pos rfl] at z
      exact z)
    exact ⟨dx, od, u, rfl, by rw [hl, hu], ru⟩
  · obtain ⟨⟨oe, vs, he, hz, hd, _, _, _⟩, _⟩ := (show ObjOk X.prog X.w H s.heap a (ExO (.ref C) a) from I.hok a _ ha)
    exact ⟨oe, none, ⟨he, hz.1, by unfold PySem.W.notCls; rw [hd] <;> rfl, by rw [hz.2]; trivial⟩, fun f' y' e => nomatch e⟩
end
section
variable {X : Cx}
def rIsE (K : PySem.W.Frag) : List V → Hp → VK → Prop := fun xs H Q => ∃ (a C : Addr) (o : Option (Str × V)) (c : V) (cv : Value) (b : Bool), xs = [.ref a, c] ∧ ErrA H a C o ∧ ExX K C ∧ ClsV c cv ∧ PySem.W.kitOne K (.ref C) cv = some b ∧ Q (.bl b) H
theorem call_isE : CallR X (.builtin "isinstance") (rIsE X.K) := by
  intro pins s σ H xs us Q I r h
  obtain ⟨a, C, o, c, cv, b, rfl, he, T, kc, e, q⟩ := h
  obtain ⟨u1, u2, rfl, r1, r2⟩ := vals2 r
  obtain rfl := kc.eq r2
  cases (show u1 = Value.ref a from r1)
  obtain ⟨oe, od, J, _⟩ := err_at I he
  exact PySem.W.kia_one (PySem.W.kitx_exc T.cl T.ga T.gg T.sb T.ca T.sp T.tk T.mo) I.kIn J e (fun z => nomatch z) fun tk => ⟨.bl b, H, I.tok tk, rfl, q⟩
def tXfE (K : PySem.W.Frag) (f : Str) (te : TE) : TE := fun σ H Q => te σ H fun x H1 => ∃ (a C : Addr) (v : V), x = .ref a ∧ ErrA H1 a C (some (f, v)) ∧ XfC K C ∧ PySem.W.findIn K (.ref C) f = some none ∧ Q v H1
theorem pe_xfE {e : Expr} {te : TE} {pos : Pos} {n : Str} (he : PE X e te) (hb : attributeBase e n X.env (eval e X.env) = eval e X.env := by rfl) : PE X (.Attribute e n pos) (tXfE X.K n te) := by
  refine ⟨fun pins s σ H Q I h => ?_⟩
  refine attr_of hb (thn (he.run pins s σ H _ I h) fun u s1 hh => ?_)
  obtain ⟨x, H1, I1, rx, a, C, v, ex, ea, T, hno, q⟩ := hh
  subst ex
  cases (show u = Value.ref a from rx)
  obtain ⟨oe, od, J, more⟩ := err_at I1 ea
  obtain ⟨dx, od1, u, rfl, hl, ru⟩ := more n v rfl
  exact HandSPX.exc_get I1.kIn J T.ga T.gg T.exC (PySem.W.findObj_own T.hdC hno rfl hl) (handed_of ru) ⟨v, H1, I1.tok _, ru, q⟩
end
end Rs
/-! try with clauses of any kind, one behind another: what has landed (Landed), what a row of clauses does with it (HandR) -/
namespace Rs
open PySem PySem.Spec PyProof.Rows L2
section
variable {X : Cx}
/-- an exception of the class cls, its own dict at d, stands at a and has landed at our frame, in the heap h -/
structure Landed (X : Cx) (pins : List (Addr × Obj)) (σ : L2.St) (H : Hp) (a : Addr) (cls : Value) (d : Option Addr) (t : Shared) (h : Heap) : Prop where
  new : H a = none
  past : ∃ (B : Heap) (t0 : Shared), Inv X pins σ H t0 ∧ (∀ b o, t0.heap.get? b = some o → b ∉ frs X.stack → B.get? b = some o) ∧ t0.heap.UpToSlots h ∧ HandSPX.FlyingZ B (X.env :: X.outer) a (Zc cls d) h ∧ t.os = t0.os ∧ AllBare t.gens
variable {pins : List (Addr × Obj)} {σ : L2.St} {H : Hp} {a : Addr} {cls : Value} {d : Option Addr} {t : Shared} {h : Heap}
theorem Landed.inv (l : Landed X pins σ H a cls d t h) : Inv X pins σ H { t with heap := h } := by
  obtain ⟨_, _, J, old, up, fly, os, ag⟩ := l.past
  exact J.landed old fly.1 up os ag
/-- within the clause's suite -/
theorem Landed.within (hf : X.env.frame = some X.env.locals) (l : Landed X pins σ H a cls d t h) :
    ∃ oe vs, h.get? a = some oe ∧ Zc cls d oe ∧ oe.data = .fields vs ∧ Inv (X.suite a ((a, oe) :: (X.pn ++ pins))) [] σ H { t with heap := h } := by
  have J := l.inv
  obtain ⟨B, _, _, _, _, fly, _, _⟩ := l.past
  obtain ⟨oe, vs, at_, z, fields⟩ := fly.there
  have far : a ∉ frs (X.env :: X.outer) := fun m => by
    obtain ⟨_, o, q, no⟩ := fly.2.2.1.mem m
    rw [at_] at q
    injection q with q
    rw [← q] at no
    exact no _ fields
  refine ⟨oe, vs, at_, z, fields, J.suite at_ fields l.new (fun q => ?_) fun m => ?_⟩
  · exact far (List.mem_filterMap.mpr ⟨X.env, .head _, by rw [hf, q]⟩)
  · obtain ⟨e, m1, m2⟩ := List.mem_filterMap.mp m
    exact far (List.mem_filterMap.mpr ⟨e, .tail _ m1, m2⟩)
theorem Landed.again {A : Around} {Q : Unit → Shared → Prop} {E : Value → Shared → Prop} (l : Landed X pins σ H a cls d t h) (k : ∀ h', Landed X pins σ H a cls d t h' → Q () { t with heap := h' }) :
    wpAny (model X.prog X.w) A (setFlight (.ref a) none) Q E { t with heap := h } := by
  obtain ⟨B, t0, J, old, up, fly, os, ag⟩ := l.past
  exact HandSPX.lands_againZ fly fun h' fly' up' => k h' ⟨l.new, B, t0, J, old, up.trans up', fly', os, ag⟩
/-- no clause takes it: it goes on -/
theorem Landed.on {W : WX} {Q : Unit → Shared → Prop} {E : Value → Shared → Prop} (hs : X.stack = X.env :: X.outer) (l : Landed X pins σ H a cls d t h) (w : W cls d σ H) (k : ∀ h', XE X W (.ref a) { t with heap := h' } → Q () { t with heap := h' }) :
    wpAny (model X.prog X.w) X.A (setFlight (.ref a) (some X.env.locals)) Q E { t with heap := h } := by
  obtain ⟨B, t0, J, old, up, fly, os, ag⟩ := l.past
  exact HandSPX.setFlight_upZ fly fun h' held up' => k h' ⟨a, B, t0, pins, σ, H, cls, d, rfl, J, old, up.trans up', by rw [hs]; exact .inr (.inr held), l.new, os, ag, w⟩
/-- what a row of clauses does with what has landed -/
def HandR (X : Cx) (hds : List ExceptHandler) (wish : Ends → WX) : Prop := ∀ (pins : List (Addr × Obj)) (σ : L2.St) (H : Hp) (a : Addr) (cls : Value) (d : Option Addr) (t : Shared) (h : Heap) (D : Ends), Landed X pins σ H a cls d t h → wish D cls d σ H →
  wpAny (model X.prog X.w) X.A (handleBy (.ref a) X.env hds) (SP X pins D) X.xe { t with heap := h }
theorem hand_nil {W : WX} (hs : X.stack = X.env :: X.outer) (hf : X.env.frame = some X.env.locals) (tk : Takes X W) : HandR X [] fun _ => W := by
  intro pins σ H a cls d t h D l w
  have go : ∀ {Q : Flow → Shared → Prop}, wpAny (model X.prog X.w) X.A (setFlight (.ref a) X.env.frame) (fun _ t' => wpAny (model X.prog X.w) X.A (throw (.ref a) : Sem Flow) Q X.xe t') X.xe { t with heap := h } := fun {Q} => by
    rw [hf]
    exact l.on hs w fun h' x => wpAny_throw (tk _ _ x)
  obtain ⟨_, _, _, _, _, ⟨_, _, _, oe, vs, T, _, _, at_, _, fields, one, _⟩, _, _⟩ := l.past
  refine wpAny_handleBy_nil ?_
  unfold PySem.passOn
  refine wpAny_bind (wpAny_field at_ fields one ?_)
  rw [if_neg (by simp : ¬ ((Value.ref T == Value.none) = true))]
  first
    | exact wpAny_bind (wpAny_pure (wpAny_bind go))
    | exact wpAny_bind go
/-- except x as n -/
theorem hand_as {x n : Str} {c : Value} {i : Nat} {b₀ : Stmt} {suite : List Stmt} {np pos' : Pos} {ts : Addr → Value → Option Addr → TS} {hds : List ExceptHandler} {more : Ends → WX} (hf : X.env.frame = some X.env.locals) (hN : X.N.Nodup) (hi : X.N[i]? = some n) (hln : X.env.kindOf n = some .local) (hc : Names X x c)
    (hsu : ∀ (a : Addr) (oe : Obj) (cls : Value) (d : Option Addr) (pn : List (Addr × Obj)), Zc cls d oe → (∃ vs, oe.data = .fields vs) → PSs (X.suite a ((a, oe) :: pn)) (b₀ :: suite) (ts a cls d)) (rest : HandR X hds more) :
    HandR X (.ExceptHandler (some (.Name x np)) (some n) (b₀ :: suite) pos' :: hds) fun D => wAs X.K c i ts (more D) D := by
  rintro pins σ H a cls d t h D l ⟨b, isc, yes, no⟩
  obtain ⟨oe, _, at_, z, _, S⟩ := l.within hf
  have looks : PySem.W.Looks (model X.prog X.w) h (typeOf (.ref a)) cls := fun _ _ _ _ k q => wpAny_typeOf_ref (k _ _ at_) (by rw [z.1]; exact q)
  have told : ∀ {Q : Value → Shared → Prop} {E : Value → Shared → Prop}, Q c { t with heap := h } → wpAny (model X.prog X.w) (X.A.mark (some (.ref a))) (eval (.Name x np) X.env) Q E { t with heap := h } := fun {Q E} q => by
    rcases hc with ⟨g, dbg, m | ⟨m, v, nn⟩⟩
    · exact ld_glob (X := X.suite a ((a, oe) :: (X.pn ++ pins))) S g m q dbg
    · exact ld_blt (X := X.suite a ((a, oe) :: (X.pn ++ pins))) S g m v q nn dbg
  refine wpAny_handleBy_cons (codeAny_handlers_test (told ((PySem.W.exm_one (M := model X.prog X.w) l.inv.kIn looks isc).here ?_))) (fun q => nomatch q)
  cases b
  · exact rest pins σ H a cls d t h D l (no rfl)
  · refine codeAny_handlers_suite_as (l.again fun h' l' => ?_)
    obtain ⟨oe', _, _, z', fields', S'⟩ := l'.within hf
    refine store_ok (X := X.suite a ((a, oe') :: (X.pn ++ pins))) (v := .ref a) S' hN hi (.inl hln) rfl (fun t1 S1 => ?_) (.inr hln)
    have bye : ∀ {σ2 : L2.St} {H2 : Hp} {t2 : Shared} {Q : Shared → Prop}, Inv (X.suite a ((a, oe') :: (X.pn ++ pins))) [] σ2 H2 t2 → (∀ t3, Inv X pins (σ2.set i none) H2 t3 → Q t3) →
        wpAny (model X.prog X.w) X.A (do bindName X.env n .none; unbindBehindTheSuite X.env n pos') (fun _ t3 => Q t3) X.xe t2 := fun J q => gone_ok (J.unsuite l.inv.ok) hN hi hln q
    refine wpAny_mono ((hsu a oe' cls d (X.pn ++ pins) z' ⟨_, fields'⟩).run [] t1 _ H _ S1 (yes rfl a l.new)) ?_ (fun _ _ q => q.elim)
    intro f t2 q
    match f, q with
    | .next, ⟨_, _, J, q⟩ => exact bye J fun _ J' => ⟨_, _, J', q⟩
    | .brk, ⟨_, _, J, q⟩ => exact bye J fun _ J' => ⟨_, _, J', q⟩
    | .cont, ⟨_, _, J, q⟩ => exact bye J fun _ J' => ⟨_, _, J', q⟩
    | .ret _, ⟨_, _, _, J, r, q⟩ => exact bye J fun _ J' => ⟨_, _, _, J', r, q⟩
/-- at the clauses the slots are as many as the names -/
theorem hand_len {hds : List ExceptHandler} {wish : Ends → WX} (r : HandR X hds wish) : HandR X hds fun D cls d σ H => σ.length = X.N.length → wish D cls d σ H := fun pins σ H a cls d t h D l w => r pins σ H a cls d t h D l (w l.inv.len)
theorem ps_try_by {body : List Stmt} {h₀ : ExceptHandler} {hds : List ExceptHandler} {pos : Pos} {tb : WX → TS} {wish : Ends → WX} (hs : X.stack = X.env :: X.outer) (hf : X.env.frame = some X.env.locals)
    (hb : ∀ (W : WX) (pn : List (Addr × Obj)) (xe : Value → Shared → Prop), Takes (X.tr pn xe) W → PassesOwn (model X.prog X.w) X.A X.env xe → PSs (X.tr pn xe) body (tb W)) (hr : HandR X (h₀ :: hds) wish) :
    PS X (.Try body (h₀ :: hds) [] [] pos) fun D σ H => tb (wish D) D σ H := by
  constructor
  intro pins t σ H D I w
  have ok := I.ok
  let catch_ : Value → Shared → Prop := fun e t1 => wpAny (model X.prog X.w) X.A (noteFrame e X.env) (fun _ t2 => wpAny (model X.prog X.w) X.A (setFlight e none) (fun _ t3 => wpAny (model X.prog X.w) X.A (handleBy e X.env (h₀ :: hds)) (SP X pins D) X.xe t3) X.xe t2) X.xe t1
  have caught : Takes (X.tr (X.pn ++ pins) catch_) (wish D) := by
    rintro _ t1 ⟨a, B, t0, pins', σ', H', cls, d, rfl, J, old, up, sky, new, os, ag, w⟩
    have fr : X.A.frames = some (X.env :: X.outer) := ok.frames.trans (by rw [hs])
    have sky : Sky B (X.env :: X.outer) a (Zc cls d) X.env.locals t1.heap := hs ▸ sky
    exact Sky.land Zc.steady fr hf sky fun h fly up' => hr _ _ _ _ _ _ _ _ _ ⟨new, B, t0, J.ofTry ok, old, up.trans up', fly, os, ag⟩ w
  refine wpAny_Try_except (wpAny_mono ((hb (wish D) _ catch_ caught PassesOwn.looking).run [] t σ H D (I.toTry _) w) ?_ fun _ _ q => q)
  intro f t1 q
  match f, q with
  | .next, ⟨_, _, J, q⟩ => exact wpAny_execs_nil ⟨_, _, J.ofTry ok, q⟩
  | .brk, ⟨_, _, J, q⟩ => exact ⟨_, _, J.ofTry ok, q⟩
  | .cont, ⟨_, _, J, q⟩ => exact ⟨_, _, J.ofTry ok, q⟩
  | .ret _, ⟨_, _, _, J, r, q⟩ => exact ⟨_, _, _, J.ofTry ok, r, q⟩
end
end Rs
/-! a def that may raise, where it does not -/
namespace Rs
open PySem PySem.Spec PyProof.Rows L2
section
variable {P : Program} {w : World} {K : PySem.W.Frag} {mg : Str → Option Value} {base : Heap} {k : Nat} {f : Addr} {fd : FuncData} {ps : List Str} {sp : Sp}
def quietSp (sp : Sp) : Sp := fun vs H Q _ => sp vs H Q E0
theorem quiet (F : FnOk P w K mg base (L2.CX P w) k f fd ps sp) : FnOk P w K mg base CX0 k f fd ps (quietSp sp) := by
  refine ⟨fun vs H Q E h => F.len vs H Q E0 h, fun A outer s H args us vs Q E hr he hb hv hs => codeAny_mono (F.run A outer s H args us vs Q E0 hr he hb hv hs) fun r s' hq => ?_⟩
  cases r with
  | ok fl =>
    cases fl with
    | ret u => exact hq
    | next => exact hq
    | brk => exact hq
    | cont => exact hq
  | error e =>
    obtain ⟨a, B, H', cls, d, _, _, _, _, _, _, _, hE⟩ := hq
    exact hE
end
end Rs
/-! lists or tuples, within comprehensions: walked, indexed, cut -/
namespace Rs
open PySem PySem.Spec PyProof.Rows L2
theorem pi_seqAK {X : Cx} {K : PySem.W.Frag} {tg l : Expr} {tl : TE} (e : X.K = K) (hl : PE X l tl) : PI X tg l (iSeqA K tl) := by
  subst e
  exact pi_seqA hl
theorem ix_seqK {X : Cx} {K : PySem.W.Frag} (e : X.K = K) : IxR X (rIx K) := by
  subst e
  exact ix_seq
def rSlE (K : PySem.W.Frag) : V → Option Int → Option Int → Hp → VK → Prop := fun x lo hi H Q => rSlL K x lo hi H Q ∨ rSlA K x lo hi H Q
theorem sl_seqK {X : Cx} {K : PySem.W.Frag} (e : X.K = K) : SlR X (rSlE K) := by
  subst e
  exact SlR.or sl_list sl_tupA
theorem op_eqDK {X : Cx} {K : PySem.W.Frag} (e : X.K = K) (hu : X.A.units + 64 < cLine) : OpR X (compareOp .Eq) (rEqD K) := by
  subst e
  exact op_eqD hu
theorem cr_sumK {X : Cx} {K : PySem.W.Frag} (e : X.K = K) (hc : X.calm = true) : CallR X (.builtin "sum") (rSum K) := by
  subst e
  exact cr_sum hc
theorem call_tuple_ofK {X : Cx} {K : PySem.W.Frag} (e : X.K = K) : CallR X (.type "tuple") (fun xs H Q => ∃ p ys, xs = [V.ref p] ∧ ((SqL K H p ys ∧ ∀ l, H l = none → Q (.ref l) (upd H l (.tup ys))) ∨ (SqT K H p ys ∧ Q (.ref p) H))) := by
  subst e
  exact call_tuple_of
theorem cr_allK {X : Cx} {K : PySem.W.Frag} (e : X.K = K) (hc : X.calm = true) : CallR X (.builtin "all") (rAll K) := by
  subst e
  exact cr_all hc
end Rs
/-! 'y'.join(xs), within comprehensions -/
namespace Rs
open PySem PySem.Spec PyProof.Rows L2
def rJoin (K : PySem.W.Frag) : V → List V → Hp → VK → Prop := fun x xs H Q => ∃ a p, ∃ ys : List Str, x = .str a ∧ xs = [.ref p] ∧ (SqL K H p (ys.map V.str) ∨ SqT K H p (ys.map V.str)) ∧
  (ys.map (·.length)).sum + ys.length * a.length ≤ 16777216 ∧ Q (.str (Txt.join a ys)) H
theorem pe_joinK {X : Cx} {K : PySem.W.Frag} {o e : Expr} {to te : TE} {x : Str} {apos pos : Pos} (eK : X.K = K) (hx : x = "join") (ho : PE X o to) (he : PE X e te) (hs : starEach [e] X.env = [(false, eval e X.env)] := by rfl) (hbase : attributeBase o "join" X.env (eval o X.env) = eval o X.env := by rfl) (hline : (apos.endLine == pos.line) = true := by rfl) :
    PE X (.Call (.Attribute o x apos) [e] [] pos) (tM1 (rJoin K) to te) := by
  subst eK
  subst hx
  exact pe_join ho he hs hbase hline
end Rs
/-! len, within comprehensions -/
namespace Rs
open PySem PySem.Spec PyProof.Rows L2
theorem call_len_seqK {X : Cx} {K : PySem.W.Frag} (e : X.K = K) : CallR X (.builtin "len") (fun xs H Q => ∃ p ys, xs = [V.ref p] ∧ (SqL K H p ys ∨ SqT K H p ys) ∧ Q (.int (ys.length : Int)) H) := by
  subst e
  exact call_len_seq
end Rs
namespace K55
open PySem PySem.Spec PyProof.Rows L2 Rs
local macro_rules | `(tactic| walk_at "om") => `(tactic| first | omega | (dsimp only; omega))
local macro_rules | `(tactic| walk_at "side") => `(tactic| first | omega | (dsimp only; omega) | decide | (unfold CMul; omega) | (unfold CDiv; omega) | (unfold CPow; omega) | exact wide_div (b := 64) (by omega) (by omega) (by decide) (by decide))
local macro_rules | `(tactic| walk_at "hp") => `(tactic| first | assumption | exact upd_same)
local macro_rules | `(tactic| walk_at "sq") => `(tactic| first | assumption | exact SqL.of (by assumption) | exact SqL.of upd_same)
local macro_rules | `(tactic| walk_at "st") => `(tactic| first
  | refine ⟨_, rfl, ?_⟩
  | (refine ⟨_, _, rfl, rfl, And.intro ?side ?_⟩; (case side => walk_at "side"))
  | refine ⟨_, _, rfl, rfl, ?_⟩
  | (refine' ⟨_, _, _, _, rfl, rfl, SqL.of ?hp, ?atx, ?_⟩; (case hp => walk_at "hp"); (case atx => exact rfl))
  | (refine' ⟨_, _, _, _, rfl, rfl, ?hp, ?atx, ?_⟩; (case hp => walk_at "hp"); (case atx => exact rfl))
  | (refine' ⟨_, _, rfl, Or.inl ?sq, ?_⟩; (case sq => walk_at "sq"))
  | refine Or.inl ⟨_, rfl, ?_⟩
  | refine Or.inr ⟨_, rfl, ?_⟩)
local macro_rules | `(tactic| walk_at "evd") => `(tactic| first
  | exact evd_int
  | exact evd_str
  | exact evd_non
  | exact evd_bl
  | exact evd_nil
  | (refine evd_cons ?_ (fun _ => ?_) <;> walk_at "evd")
  | (refine evd_tup ?_ (Nat.le_of_ble_eq_true rfl); walk_at "evd"))

def topS (i : Nat) : Stmt := PySem.Challenge.pw_ringsums_k55_paces_and_hops.main.body.getD i (.Pass ⟨0, 0, 0, 0⟩)
abbrev s_Form___init__ : Stmt := inClass (topS 16) 0
theorem sc_Form___init__ : FnScope ["self", "times", "plus", "by"] ["self", "times", "plus", "by"] (defScope s_Form___init__) := ⟨rfl, rfl, rfl, by decide +kernel, rfl, by decide +kernel, by decide +kernel⟩
abbrev s_Form___call__ : Stmt := inClass (topS 16) 1
theorem sc_Form___call__ : FnScope ["self", "n"] ["self", "n"] (defScope s_Form___call__) := ⟨rfl, rfl, rfl, by decide +kernel, rfl, by decide +kernel, by decide +kernel⟩
abbrev s_Form___eq__ : Stmt := inClass (topS 16) 2
theorem sc_Form___eq__ : FnScope ["self", "other"] ["self", "other"] (defScope s_Form___eq__) := ⟨rfl, rfl, rfl, by decide +kernel, rfl, by decide +kernel, by decide +kernel⟩
abbrev s_Form___str__ : Stmt := inClass (topS 16) 3
theorem sc_Form___str__ : FnScope ["self"] ["self"] (defScope s_Form___str__) := ⟨rfl, rfl, rfl, by decide +kernel, rfl, by decide +kernel, by decide +kernel⟩
abbrev s_Form_read : Stmt := inClass (topS 16) 4
theorem sc_Form_read : FnScope ["cls", "text", "parts", "times", "plus", "by"] ["cls", "text"] (defScope s_Form_read) := ⟨rfl, rfl, rfl, by decide +kernel, rfl, by decide +kernel, by decide +kernel⟩
abbrev s_Lane___init__ : Stmt := inClass (topS 26) 0
theorem sc_Lane___init__ : FnScope ["self", "way", "sign", "shift", "deed"] ["self", "way", "sign", "shift", "deed"] (defScope s_Lane___init__) := ⟨rfl, rfl, rfl, by decide +kernel, rfl, by decide +kernel, by decide +kernel⟩
abbrev s_Lane___eq__ : Stmt := inClass (topS 26) 2
theorem sc_Lane___eq__ : FnScope ["self", "other"] ["self", "other"] (defScope s_Lane___eq__) := ⟨rfl, rfl, rfl, by decide +kernel, rfl, by decide +kernel, by decide +kernel⟩
abbrev s_Lane___str__ : Stmt := inClass (topS 26) 3
theorem sc_Lane___str__ : FnScope ["self"] ["self"] (defScope s_Lane___str__) := ⟨rfl, rfl, rfl, by decide +kernel, rfl, by decide +kernel, by decide +kernel⟩
abbrev s_Block___init__ : Stmt := inClass (topS 27) 0
theorem sc_Block___init__ : FnScope ["self", "rounds", "lanes", "lane"] ["self", "rounds", "lanes"] (defScope s_Block___init__) := ⟨rfl, rfl, rfl, by decide +kernel, rfl, by decide +kernel, by decide +kernel⟩
abbrev s_Block___eq__ : Stmt := inClass (topS 27) 1
theorem sc_Block___eq__ : FnScope ["self", "other"] ["self", "other"] (defScope s_Block___eq__) := ⟨rfl, rfl, rfl, by decide +kernel, rfl, by decide +kernel, by decide +kernel⟩
abbrev s_Block___str__ : Stmt := inClass (topS 27) 2
theorem sc_Block___str__ : FnScope ["self", "lane"] ["self"] (defScope s_Block___str__) := ⟨rfl, rfl, rfl, by decide +kernel, rfl, by decide +kernel, by decide +kernel⟩
abbrev s_Plan___init__ : Stmt := inClass (topS 28) 0
theorem sc_Plan___init__ : FnScope ["self", "blocks", "block"] ["self", "blocks"] (defScope s_Plan___init__) := ⟨rfl, rfl, rfl, by decide +kernel, rfl, by decide +kernel, by decide +kernel⟩
abbrev s_Plan_all_rounds : Stmt := inClass (topS 28) 1
theorem sc_Plan_all_rounds : FnScope ["self", "n"] ["self", "n"] (defScope s_Plan_all_rounds) := ⟨rfl, rfl, rfl, by decide +kernel, rfl, by decide +kernel, by decide +kernel⟩
abbrev s_Plan___eq__ : Stmt := inClass (topS 28) 8
theorem sc_Plan___eq__ : FnScope ["self", "other"] ["self", "other"] (defScope s_Plan___eq__) := ⟨rfl, rfl, rfl, by decide +kernel, rfl, by decide +kernel, by decide +kernel⟩
abbrev s_Plan___str__ : Stmt := inClass (topS 28) 9
theorem sc_Plan___str__ : FnScope ["self", "block"] ["self"] (defScope s_Plan___str__) := ⟨rfl, rfl, rfl, by decide +kernel, rfl, by decide +kernel, by decide +kernel⟩
abbrev s_Plan_read : Stmt := inClass (topS 28) 10
theorem sc_Plan_read : FnScope ["cls", "text"] ["cls", "text"] (defScope s_Plan_read) := ⟨rfl, rfl, rfl, by decide +kernel, rfl, by decide +kernel, by decide +kernel⟩
abbrev s_is_whole : Stmt := topS 11
theorem sc_is_whole : FnScope ["value"] ["value"] (defScope s_is_whole) := ⟨rfl, rfl, rfl, by decide +kernel, rfl, by decide +kernel, by decide +kernel⟩
abbrev s_is_number : Stmt := topS 12
theorem sc_is_number : FnScope ["value"] ["value"] (defScope s_is_number) := ⟨rfl, rfl, rfl, by decide +kernel, rfl, by decide +kernel, by decide +kernel⟩
abbrev s_is_sequence : Stmt := topS 13
theorem sc_is_sequence : FnScope ["value"] ["value"] (defScope s_is_sequence) := ⟨rfl, rfl, rfl, by decide +kernel, rfl, by decide +kernel, by decide +kernel⟩
abbrev s_whole_in : Stmt := topS 14
theorem sc_whole_in : FnScope ["word", "digits"] ["word"] (defScope s_whole_in) := ⟨rfl, rfl, rfl, by decide +kernel, rfl, by decide +kernel, by decide +kernel⟩
abbrev s__text : Stmt := topS 17
theorem sc__text : FnScope ["times", "plus", "by", "upper"] ["times", "plus", "by"] (defScope s__text) := ⟨rfl, rfl, rfl, by decide +kernel, rfl, by decide +kernel, by decide +kernel⟩
abbrev s__upper : Stmt := topS 18
theorem sc__upper : FnScope ["times", "plus", "front"] ["times", "plus"] (defScope s__upper) := ⟨rfl, rfl, rfl, by decide +kernel, rfl, by decide +kernel, by decide +kernel⟩
abbrev s__parts : Stmt := topS 19
theorem sc__parts : FnScope ["text", "upper", "by", "_", "lower", "times", "plus"] ["text"] (defScope s__parts) := ⟨rfl, rfl, rfl, by decide +kernel, rfl, by decide +kernel, by decide +kernel⟩
abbrev s__upper_parts : Stmt := topS 20
theorem sc__upper_parts : FnScope ["upper", "front", "mark", "behind", "plus"] ["upper"] (defScope s__upper_parts) := ⟨rfl, rfl, rfl, by decide +kernel, rfl, by decide +kernel, by decide +kernel⟩
abbrev s__factor : Stmt := topS 21
theorem sc__factor : FnScope ["word"] ["word"] (defScope s__factor) := ⟨rfl, rfl, rfl, by decide +kernel, rfl, by decide +kernel, by decide +kernel⟩
abbrev s__blocks_in : Stmt := topS 29
theorem sc__blocks_in : FnScope ["lines", "found", "at", "line", "rounds", "lane", "lanes"] ["lines"] (defScope s__blocks_in) := ⟨rfl, rfl, rfl, by decide +kernel, rfl, by decide +kernel, by decide +kernel⟩
abbrev s__rounds_in : Stmt := topS 30
theorem sc__rounds_in : FnScope ["line", "word", "_", "text"] ["line"] (defScope s__rounds_in) := ⟨rfl, rfl, rfl, by decide +kernel, rfl, by decide +kernel, by decide +kernel⟩
abbrev s__lane_in : Stmt := topS 31
theorem sc__lane_in : FnScope ["line", "words", "way", "sign", "shift", "deed"] ["line"] (defScope s__lane_in) := ⟨rfl, rfl, rfl, by decide +kernel, rfl, by decide +kernel, by decide +kernel⟩
abbrev s_pace : Stmt := topS 33
theorem sc_pace : FnScope ["plan", "upper", "lower", "block", "times", "common"] ["plan"] (defScope s_pace) := ⟨rfl, rfl, rfl, by decide +kernel, rfl, by decide +kernel, by decide +kernel⟩
abbrev s_hops : Stmt := topS 34
theorem sc_hops : FnScope ["plan", "n", "block"] ["plan", "n"] (defScope s_hops) := ⟨rfl, rfl, rfl, by decide +kernel, rfl, by decide +kernel, by decide +kernel⟩
abbrev s__law_box : Stmt := topS 36
theorem sc__law_box : FnScope ["_law_script", "_law_k", "_law_own", "_law_cell", "_law_seed"] ["_law_script", "_law_k", "_law_own"] (defScope s__law_box) := ⟨rfl, rfl, rfl, by decide +kernel, rfl, by decide +kernel, by decide +kernel⟩
abbrev s__law_take : Stmt := topS 37
theorem sc__law_take : FnScope ["_law_box_here", "_law_many", "_law_digit", "_law_raw", "_law_wide"] ["_law_box_here", "_law_many"] (defScope s__law_take) := ⟨rfl, rfl, rfl, by decide +kernel, rfl, by decide +kernel, by decide +kernel⟩
abbrev s__law_pick : Stmt := topS 38
theorem sc__law_pick : FnScope ["_law_box_here", "_law_items"] ["_law_box_here", "_law_items"] (defScope s__law_pick) := ⟨rfl, rfl, rfl, by decide +kernel, rfl, by decide +kernel, by decide +kernel⟩
abbrev s__law_form_text : Stmt := topS 39
theorem sc__law_form_text : FnScope ["_law_form_here", "_law_times", "_law_plus", "_law_by", "_law_upper"] ["_law_form_here"] (defScope s__law_form_text) := ⟨rfl, rfl, rfl, by decide +kernel, rfl, by decide +kernel, by decide +kernel⟩
abbrev s__law_plan_text : Stmt := topS 40
theorem sc__law_plan_text : FnScope ["_law_drawn", "_law_lines", "_law_form_here", "_law_lanes", "_law_lane_here"] ["_law_drawn"] (defScope s__law_plan_text) := ⟨rfl, rfl, rfl, by decide +kernel, rfl, by decide +kernel, by decide +kernel⟩
abbrev s__law_plan_of : Stmt := topS 41
theorem sc__law_plan_of : FnScope ["_law_drawn"] ["_law_drawn"] (defScope s__law_plan_of) := ⟨rfl, rfl, rfl, by decide +kernel, rfl, by decide +kernel, by decide +kernel⟩
abbrev s__law_form : Stmt := topS 42
theorem sc__law_form : FnScope ["_law_box_here", "_law_most"] ["_law_box_here", "_law_most"] (defScope s__law_form) := ⟨rfl, rfl, rfl, by decide +kernel, rfl, by decide +kernel, by decide +kernel⟩
abbrev s__law_lane : Stmt := topS 43
theorem sc__law_lane : FnScope ["_law_box_here", "_law_deed"] ["_law_box_here"] (defScope s__law_lane) := ⟨rfl, rfl, rfl, by decide +kernel, rfl, by decide +kernel, by decide +kernel⟩
abbrev s__law_value : Stmt := topS 44
theorem sc__law_value : FnScope ["_law_form_here", "_law_n"] ["_law_form_here", "_law_n"] (defScope s__law_value) := ⟨rfl, rfl, rfl, by decide +kernel, rfl, by decide +kernel, by decide +kernel⟩
abbrev s__law_part : Stmt := topS 45
theorem sc__law_part : FnScope ["_law_one", "_law_other"] ["_law_one", "_law_other"] (defScope s__law_part) := ⟨rfl, rfl, rfl, by decide +kernel, rfl, by decide +kernel, by decide +kernel⟩
abbrev s__law_wide_form : Stmt := topS 46
theorem sc__law_wide_form : FnScope ["_law_box_here"] ["_law_box_here"] (defScope s__law_wide_form) := ⟨rfl, rfl, rfl, by decide +kernel, rfl, by decide +kernel, by decide +kernel⟩
abbrev s__law_pace : Stmt := topS 47
theorem sc__law_pace : FnScope ["_law_drawn", "_law_upper", "_law_lower", "_law_form_here", "_law_lanes", "_law_part_here"] ["_law_drawn"] (defScope s__law_pace) := ⟨rfl, rfl, rfl, by decide +kernel, rfl, by decide +kernel, by decide +kernel⟩
abbrev s_law : Stmt := topS 48
theorem sc_law : FnScope ["_law_script", "_law_k", "_law_box_here", "_law_turn", "_law_drawn", "_law_more", "_law_spot", "_law_made", "_law_n", "_law_due", "_law_form_here", "_law_lanes"] ["_law_script"] (defScope s_law) := ⟨rfl, rfl, rfl, by decide +kernel, rfl, by decide +kernel, by decide +kernel⟩
/-- what the top has written -/
structure Txt (K : PySem.W.Frag) (mg : Str → Option Value) where
  c_Form : Addr
  m_Form : mg "Form" = some (.ref c_Form)
  C_Form : Cls K c_Form
  n_Form_times : NoAttr K c_Form "times"
  n_Form_plus : NoAttr K c_Form "plus"
  n_Form_by : NoAttr K c_Form "by"
  F_Form : FmtO K c_Form
  I_Form : OwnI K c_Form
  N_Form : OwnN K c_Form
  a_Form___init__ : Addr
  d_Form___init__ : FuncData
  F_Form___init__ : FunD K "__init__" "Form.__init__" (defArgs s_Form___init__) (defBody s_Form___init__) (defScope s_Form___init__) [(.int 0), (.int 0), (.int 1)] [] a_Form___init__ d_Form___init__
  b_Form___init__ : Binds K d_Form___init__ ["self", "times", "plus", "by"] []
  k_Form___init__ : PySem.W.keepIn K (.ref a_Form___init__) = true
  D_Form___init__ : ∃ ds, Vals [.int 0, .int 0, .int 1] ds ∧ Binds K d_Form___init__ ["self", "times", "plus", "by"] ds
  D1_Form___init__ : ∃ ds, Vals [.int 0, .int 1] ds ∧ Binds K d_Form___init__ ["self", "times", "plus", "by"] ds
  D2_Form___init__ : ∃ ds, Vals [.int 1] ds ∧ Binds K d_Form___init__ ["self", "times", "plus", "by"] ds
  M_Form : Mk K c_Form a_Form___init__
  a_Form___call__ : Addr
  d_Form___call__ : FuncData
  F_Form___call__ : Fun K "__call__" "Form.__call__" s_Form___call__ a_Form___call__ d_Form___call__
  b_Form___call__ : Binds K d_Form___call__ ["self", "n"] []
  k_Form___call__ : PySem.W.keepIn K (.ref a_Form___call__) = true
  fn_Form___call__ : PySem.W.fnIn K a_Form___call__ = true
  M_Form___call__ : Meth K c_Form "__call__" a_Form___call__
  a_Form___eq__ : Addr
  d_Form___eq__ : FuncData
  F_Form___eq__ : Fun K "__eq__" "Form.__eq__" s_Form___eq__ a_Form___eq__ d_Form___eq__
  b_Form___eq__ : Binds K d_Form___eq__ ["self", "other"] []
  k_Form___eq__ : PySem.W.keepIn K (.ref a_Form___eq__) = true
  O_Form : OwnQ K c_Form a_Form___eq__
  a_Form___str__ : Addr
  d_Form___str__ : FuncData
  F_Form___str__ : Fun K "__str__" "Form.__str__" s_Form___str__ a_Form___str__ d_Form___str__
  b_Form___str__ : Binds K d_Form___str__ ["self"] []
  k_Form___str__ : PySem.W.keepIn K (.ref a_Form___str__) = true
  M_Form___str__ : Meth K c_Form "__str__" a_Form___str__
  a_Form_read : Addr
  d_Form_read : FuncData
  F_Form_read : Fun K "read" "Form.read" s_Form_read a_Form_read d_Form_read
  b_Form_read : Binds K d_Form_read ["cls", "text"] []
  k_Form_read : PySem.W.keepIn K (.ref a_Form_read) = true
  R_Form : ClX.CRead K c_Form (.type "type")
  p_Form_read : Addr
  G_Form_read : ClX.CMet K c_Form (.type "type") "read" p_Form_read a_Form_read
  c_Lane : Addr
  m_Lane : mg "Lane" = some (.ref c_Lane)
  C_Lane : Cls K c_Lane
  n_Lane_way : NoAttr K c_Lane "way"
  n_Lane_sign : NoAttr K c_Lane "sign"
  n_Lane_shift : NoAttr K c_Lane "shift"
  n_Lane_deed : NoAttr K c_Lane "deed"
  I_Lane : OwnI K c_Lane
  N_Lane : OwnN K c_Lane
  a_Lane___init__ : Addr
  d_Lane___init__ : FuncData
  F_Lane___init__ : Fun K "__init__" "Lane.__init__" s_Lane___init__ a_Lane___init__ d_Lane___init__
  b_Lane___init__ : Binds K d_Lane___init__ ["self", "way", "sign", "shift", "deed"] []
  k_Lane___init__ : PySem.W.keepIn K (.ref a_Lane___init__) = true
  M_Lane : Mk K c_Lane a_Lane___init__
  a_Lane___eq__ : Addr
  d_Lane___eq__ : FuncData
  F_Lane___eq__ : Fun K "__eq__" "Lane.__eq__" s_Lane___eq__ a_Lane___eq__ d_Lane___eq__
  b_Lane___eq__ : Binds K d_Lane___eq__ ["self", "other"] []
  k_Lane___eq__ : PySem.W.keepIn K (.ref a_Lane___eq__) = true
  O_Lane : OwnQ K c_Lane a_Lane___eq__
  a_Lane___str__ : Addr
  d_Lane___str__ : FuncData
  F_Lane___str__ : Fun K "__str__" "Lane.__str__" s_Lane___str__ a_Lane___str__ d_Lane___str__
  b_Lane___str__ : Binds K d_Lane___str__ ["self"] []
  k_Lane___str__ : PySem.W.keepIn K (.ref a_Lane___str__) = true
  M_Lane___str__ : Meth K c_Lane "__str__" a_Lane___str__
  c_Block : Addr
  m_Block : mg "Block" = some (.ref c_Block)
  C_Block : Cls K c_Block
  n_Block_rounds : NoAttr K c_Block "rounds"
  n_Block_lanes : NoAttr K c_Block "lanes"
  I_Block : OwnI K c_Block
  N_Block : OwnN K c_Block
  a_Block___init__ : Addr
  d_Block___init__ : FuncData
  F_Block___init__ : Fun K "__init__" "Block.__init__" s_Block___init__ a_Block___init__ d_Block___init__
  b_Block___init__ : Binds K d_Block___init__ ["self", "rounds", "lanes"] []
  k_Block___init__ : PySem.W.keepIn K (.ref a_Block___init__) = true
  M_Block : Mk K c_Block a_Block___init__
  a_Block___eq__ : Addr
  d_Block___eq__ : FuncData
  F_Block___eq__ : Fun K "__eq__" "Block.__eq__" s_Block___eq__ a_Block___eq__ d_Block___eq__
  b_Block___eq__ : Binds K d_Block___eq__ ["self", "other"] []
  k_Block___eq__ : PySem.W.keepIn K (.ref a_Block___eq__) = true
  O_Block : OwnQ K c_Block a_Block___eq__
  a_Block___str__ : Addr
  d_Block___str__ : FuncData
  F_Block___str__ : Fun K "__str__" "Block.__str__" s_Block___str__ a_Block___str__ d_Block___str__
  b_Block___str__ : Binds K d_Block___str__ ["self"] []
  k_Block___str__ : PySem.W.keepIn K (.ref a_Block___str__) = true
  M_Block___str__ : Meth K c_Block "__str__" a_Block___str__
  c_Plan : Addr
  m_Plan : mg "Plan" = some (.ref c_Plan)
  C_Plan : Cls K c_Plan
  n_Plan_blocks : NoAttr K c_Plan "blocks"
  n_Plan_found : NoAttr K c_Plan "found"
  I_Plan : OwnI K c_Plan
  N_Plan : OwnN K c_Plan
  e_Plan___init___0 : Addr
  a_Plan___init__ : Addr
  d_Plan___init__ : FuncData
  F_Plan___init__ : FunD K "__init__" "Plan.__init__" (defArgs s_Plan___init__) (defBody s_Plan___init__) (defScope s_Plan___init__) [(.ref e_Plan___init___0)] [] a_Plan___init__ d_Plan___init__
  b_Plan___init__ : Binds K d_Plan___init__ ["self", "blocks"] []
  k_Plan___init__ : PySem.W.keepIn K (.ref a_Plan___init__) = true
  D_Plan___init__ : ∃ ds, Vals [.ref e_Plan___init___0] ds ∧ Binds K d_Plan___init__ ["self", "blocks"] ds
  E_Plan___init___0 : ∀ H, SqT K H e_Plan___init___0 []
  M_Plan : Mk K c_Plan a_Plan___init__
  a_Plan_all_rounds : Addr
  d_Plan_all_rounds : FuncData
  F_Plan_all_rounds : Fun K "all_rounds" "Plan.all_rounds" s_Plan_all_rounds a_Plan_all_rounds d_Plan_all_rounds
  b_Plan_all_rounds : Binds K d_Plan_all_rounds ["self", "n"] []
  k_Plan_all_rounds : PySem.W.keepIn K (.ref a_Plan_all_rounds) = true
  M_Plan_all_rounds : Meth K c_Plan "all_rounds" a_Plan_all_rounds
  a_Plan___eq__ : Addr
  d_Plan___eq__ : FuncData
  F_Plan___eq__ : Fun K "__eq__" "Plan.__eq__" s_Plan___eq__ a_Plan___eq__ d_Plan___eq__
  b_Plan___eq__ : Binds K d_Plan___eq__ ["self", "other"] []
  k_Plan___eq__ : PySem.W.keepIn K (.ref a_Plan___eq__) = true
  O_Plan : OwnQ K c_Plan a_Plan___eq__
  a_Plan___str__ : Addr
  d_Plan___str__ : FuncData
  F_Plan___str__ : Fun K "__str__" "Plan.__str__" s_Plan___str__ a_Plan___str__ d_Plan___str__
  b_Plan___str__ : Binds K d_Plan___str__ ["self"] []
  k_Plan___str__ : PySem.W.keepIn K (.ref a_Plan___str__) = true
  M_Plan___str__ : Meth K c_Plan "__str__" a_Plan___str__
  a_Plan_read : Addr
  d_Plan_read : FuncData
  F_Plan_read : Fun K "read" "Plan.read" s_Plan_read a_Plan_read d_Plan_read
  b_Plan_read : Binds K d_Plan_read ["cls", "text"] []
  k_Plan_read : PySem.W.keepIn K (.ref a_Plan_read) = true
  R_Plan : ClX.CRead K c_Plan (.type "type")
  p_Plan_read : Addr
  G_Plan_read : ClX.CMet K c_Plan (.type "type") "read" p_Plan_read a_Plan_read
  kit_Lane_Form : PySem.W.kitOne K (.ref c_Lane) (.ref c_Form) = some false
  kit_Block_Lane : PySem.W.kitOne K (.ref c_Block) (.ref c_Lane) = some false
  A_WAYS : Addr
  m_WAYS : mg "WAYS" = some (.ref A_WAYS)
  s_WAYS : ∀ H, SqT K H A_WAYS [.str "up", .str "down"]
  A_SIGNS : Addr
  m_SIGNS : mg "SIGNS" = some (.ref A_SIGNS)
  s_SIGNS : ∀ H, SqT K H A_SIGNS [.str "+", .str "-"]
  A_DEEDS : Addr
  m_DEEDS : mg "DEEDS" = some (.ref A_DEEDS)
  s_DEEDS : ∀ H, SqT K H A_DEEDS [.str "add", .str "put"]
  a_is_whole : Addr
  d_is_whole : FuncData
  F_is_whole : Fun K "is_whole" "is_whole" s_is_whole a_is_whole d_is_whole
  b_is_whole : Binds K d_is_whole ["value"] []
  k_is_whole : PySem.W.keepIn K (.ref a_is_whole) = true
  m_is_whole : mg "is_whole" = some (.ref a_is_whole)
  a_is_number : Addr
  d_is_number : FuncData
  F_is_number : Fun K "is_number" "is_number" s_is_number a_is_number d_is_number
  b_is_number : Binds K d_is_number ["value"] []
  k_is_number : PySem.W.keepIn K (.ref a_is_number) = true
  m_is_number : mg "is_number" = some (.ref a_is_number)
  a_is_sequence : Addr
  d_is_sequence : FuncData
  F_is_sequence : Fun K "is_sequence" "is_sequence" s_is_sequence a_is_sequence d_is_sequence
  b_is_sequence : Binds K d_is_sequence ["value"] []
  k_is_sequence : PySem.W.keepIn K (.ref a_is_sequence) = true
  m_is_sequence : mg "is_sequence" = some (.ref a_is_sequence)
  a_whole_in : Addr
  d_whole_in : FuncData
  F_whole_in : Fun K "whole_in" "whole_in" s_whole_in a_whole_in d_whole_in
  b_whole_in : Binds K d_whole_in ["word"] []
  k_whole_in : PySem.W.keepIn K (.ref a_whole_in) = true
  m_whole_in : mg "whole_in" = some (.ref a_whole_in)
  a__text : Addr
  d__text : FuncData
  F__text : Fun K "_text" "_text" s__text a__text d__text
  b__text : Binds K d__text ["times", "plus", "by"] []
  k__text : PySem.W.keepIn K (.ref a__text) = true
  m__text : mg "_text" = some (.ref a__text)
  a__upper : Addr
  d__upper : FuncData
  F__upper : Fun K "_upper" "_upper" s__upper a__upper d__upper
  b__upper : Binds K d__upper ["times", "plus"] []
  k__upper : PySem.W.keepIn K (.ref a__upper) = true
  m__upper : mg "_upper" = some (.ref a__upper)
  a__parts : Addr
  d__parts : FuncData
  F__parts : Fun K "_parts" "_parts" s__parts a__parts d__parts
  b__parts : Binds K d__parts ["text"] []
  k__parts : PySem.W.keepIn K (.ref a__parts) = true
  m__parts : mg "_parts" = some (.ref a__parts)
  a__upper_parts : Addr
  d__upper_parts : FuncData
  F__upper_parts : Fun K "_upper_parts" "_upper_parts" s__upper_parts a__upper_parts d__upper_parts
  b__upper_parts : Binds K d__upper_parts ["upper"] []
  k__upper_parts : PySem.W.keepIn K (.ref a__upper_parts) = true
  m__upper_parts : mg "_upper_parts" = some (.ref a__upper_parts)
  a__factor : Addr
  d__factor : FuncData
  F__factor : Fun K "_factor" "_factor" s__factor a__factor d__factor
  b__factor : Binds K d__factor ["word"] []
  k__factor : PySem.W.keepIn K (.ref a__factor) = true
  m__factor : mg "_factor" = some (.ref a__factor)
  a__blocks_in : Addr
  d__blocks_in : FuncData
  F__blocks_in : Fun K "_blocks_in" "_blocks_in" s__blocks_in a__blocks_in d__blocks_in
  b__blocks_in : Binds K d__blocks_in ["lines"] []
  k__blocks_in : PySem.W.keepIn K (.ref a__blocks_in) = true
  m__blocks_in : mg "_blocks_in" = some (.ref a__blocks_in)
  a__rounds_in : Addr
  d__rounds_in : FuncData
  F__rounds_in : Fun K "_rounds_in" "_rounds_in" s__rounds_in a__rounds_in d__rounds_in
  b__rounds_in : Binds K d__rounds_in ["line"] []
  k__rounds_in : PySem.W.keepIn K (.ref a__rounds_in) = true
  m__rounds_in : mg "_rounds_in" = some (.ref a__rounds_in)
  a__lane_in : Addr
  d__lane_in : FuncData
  F__lane_in : Fun K "_lane_in" "_lane_in" s__lane_in a__lane_in d__lane_in
  b__lane_in : Binds K d__lane_in ["line"] []
  k__lane_in : PySem.W.keepIn K (.ref a__lane_in) = true
  m__lane_in : mg "_lane_in" = some (.ref a__lane_in)
  a_pace : Addr
  d_pace : FuncData
  F_pace : Fun K "pace" "pace" s_pace a_pace d_pace
  b_pace : Binds K d_pace ["plan"] []
  k_pace : PySem.W.keepIn K (.ref a_pace) = true
  m_pace : mg "pace" = some (.ref a_pace)
  a_hops : Addr
  d_hops : FuncData
  F_hops : Fun K "hops" "hops" s_hops a_hops d_hops
  b_hops : Binds K d_hops ["plan", "n"] []
  k_hops : PySem.W.keepIn K (.ref a_hops) = true
  m_hops : mg "hops" = some (.ref a_hops)
  a__law_box : Addr
  d__law_box : FuncData
  F__law_box : Fun K "_law_box" "_law_box" s__law_box a__law_box d__law_box
  b__law_box : Binds K d__law_box ["_law_script", "_law_k", "_law_own"] []
  k__law_box : PySem.W.keepIn K (.ref a__law_box) = true
  m__law_box : mg "_law_box" = some (.ref a__law_box)
  a__law_take : Addr
  d__law_take : FuncData
  F__law_take : Fun K "_law_take" "_law_take" s__law_take a__law_take d__law_take
  b__law_take : Binds K d__law_take ["_law_box_here", "_law_many"] []
  k__law_take : PySem.W.keepIn K (.ref a__law_take) = true
  m__law_take : mg "_law_take" = some (.ref a__law_take)
  a__law_pick : Addr
  d__law_pick : FuncData
  F__law_pick : Fun K "_law_pick" "_law_pick" s__law_pick a__law_pick d__law_pick
  b__law_pick : Binds K d__law_pick ["_law_box_here", "_law_items"] []
  k__law_pick : PySem.W.keepIn K (.ref a__law_pick) = true
  m__law_pick : mg "_law_pick" = some (.ref a__law_pick)
  a__law_form_text : Addr
  d__law_form_text : FuncData
  F__law_form_text : Fun K "_law_form_text" "_law_form_text" s__law_form_text a__law_form_text d__law_form_text
  b__law_form_text : Binds K d__law_form_text ["_law_form_here"] []
  k__law_form_text : PySem.W.keepIn K (.ref a__law_form_text) = true
  m__law_form_text : mg "_law_form_text" = some (.ref a__law_form_text)
  a__law_plan_text : Addr
  d__law_plan_text : FuncData
  F__law_plan_text : Fun K "_law_plan_text" "_law_plan_text" s__law_plan_text a__law_plan_text d__law_plan_text
  b__law_plan_text : Binds K d__law_plan_text ["_law_drawn"] []
  k__law_plan_text : PySem.W.keepIn K (.ref a__law_plan_text) = true
  m__law_plan_text : mg "_law_plan_text" = some (.ref a__law_plan_text)
  a__law_plan_of : Addr
  d__law_plan_of : FuncData
  F__law_plan_of : Fun K "_law_plan_of" "_law_plan_of" s__law_plan_of a__law_plan_of d__law_plan_of
  b__law_plan_of : Binds K d__law_plan_of ["_law_drawn"] []
  k__law_plan_of : PySem.W.keepIn K (.ref a__law_plan_of) = true
  m__law_plan_of : mg "_law_plan_of" = some (.ref a__law_plan_of)
  a__law_form : Addr
  d__law_form : FuncData
  F__law_form : Fun K "_law_form" "_law_form" s__law_form a__law_form d__law_form
  b__law_form : Binds K d__law_form ["_law_box_here", "_law_most"] []
  k__law_form : PySem.W.keepIn K (.ref a__law_form) = true
  m__law_form : mg "_law_form" = some (.ref a__law_form)
  a__law_lane : Addr
  d__law_lane : FuncData
  F__law_lane : Fun K "_law_lane" "_law_lane" s__law_lane a__law_lane d__law_lane
  b__law_lane : Binds K d__law_lane ["_law_box_here"] []
  k__law_lane : PySem.W.keepIn K (.ref a__law_lane) = true
  m__law_lane : mg "_law_lane" = some (.ref a__law_lane)
  a__law_value : Addr
  d__law_value : FuncData
  F__law_value : Fun K "_law_value" "_law_value" s__law_value a__law_value d__law_value
  b__law_value : Binds K d__law_value ["_law_form_here", "_law_n"] []
  k__law_value : PySem.W.keepIn K (.ref a__law_value) = true
  m__law_value : mg "_law_value" = some (.ref a__law_value)
  a__law_part : Addr
  d__law_part : FuncData
  F__law_part : Fun K "_law_part" "_law_part" s__law_part a__law_part d__law_part
  b__law_part : Binds K d__law_part ["_law_one", "_law_other"] []
  k__law_part : PySem.W.keepIn K (.ref a__law_part) = true
  m__law_part : mg "_law_part" = some (.ref a__law_part)
  a__law_wide_form : Addr
  d__law_wide_form : FuncData
  F__law_wide_form : Fun K "_law_wide_form" "_law_wide_form" s__law_wide_form a__law_wide_form d__law_wide_form
  b__law_wide_form : Binds K d__law_wide_form ["_law_box_here"] []
  k__law_wide_form : PySem.W.keepIn K (.ref a__law_wide_form) = true
  m__law_wide_form : mg "_law_wide_form" = some (.ref a__law_wide_form)
  a__law_pace : Addr
  d__law_pace : FuncData
  F__law_pace : Fun K "_law_pace" "_law_pace" s__law_pace a__law_pace d__law_pace
  b__law_pace : Binds K d__law_pace ["_law_drawn"] []
  k__law_pace : PySem.W.keepIn K (.ref a__law_pace) = true
  m__law_pace : mg "_law_pace" = some (.ref a__law_pace)
  a_law : Addr
  d_law : FuncData
  F_law : Fun K "law" "law" s_law a_law d_law
  b_law : Binds K d_law ["_law_script"] []
  k_law : PySem.W.keepIn K (.ref a_law) = true
  m_law : mg "law" = some (.ref a_law)
  z_abs : mg "abs" = none
  z_all : mg "all" = none
  z_bool : mg "bool" = none
  z_enumerate : mg "enumerate" = none
  z_int : mg "int" = none
  z_isinstance : mg "isinstance" = none
  z_len : mg "len" = none
  z_list : mg "list" = none
  z_max : mg "max" = none
  z_min : mg "min" = none
  z_range : mg "range" = none
  z_repr : mg "repr" = none
  z_str : mg "str" = none
  z_sum : mg "sum" = none
  z_tuple : mg "tuple" = none
  m_gcd : mg "gcd" = some (.builtin "math.gcd")
section
variable {P : Program} {w : World} {K : PySem.W.Frag} {mg : Str → Option Value} {base : Heap}
def spTake : Sp := fun vs H Q _ => ∃ (b : Addr) (m : Int), vs = [.ref b, .int m] ∧ Box H b ∧ 0 < m ∧ m < 2 ^ 40 ∧
  ∀ (r : Int) (H' : Hp), 0 ≤ r → r < m → Box H' b → But b H H' → Q (.int r) H'
theorem ok_take (T : Txt K mg) : FnOk P w K mg base CX0 1 T.a__law_take T.d__law_take ["_law_box_here", "_law_many"] spTake := by
  refine T.F__law_take.ok sc__law_take (fun vs H Q E h => ?_) (fun cdv A outer s H vs Q E hr h => ?_)
  · obtain ⟨b, m, rfl, _⟩ := h
    rfl
  · obtain ⟨b, m, rfl, ⟨x, y, z, hb, ⟨x0, y1, y2⟩⟩, m0, m1, k⟩ := h
    have nd := sc__law_take.nd
    refine ⟨_, (pss_cons (ps_if (pt_cmpR op_gt (pe_ix ix_list (pv 0) pe_int (fun _ _ => rfl)) pe_int (nomark _)) (pss_cons (ps_set (i := 2) nd rfl (Or.inl rfl) (pe_op op_mod (pe_callTy call_int1 (by rfl) T.z_int (by decide +kernel) (pa_cons (pe_ix ix_list (pv 0) pe_int (fun _ _ => rfl)) pa_nil)) (pv 1)))
    (pss_cons (ps_asg (pe_op op_fdivW (pe_ix ix_list (pv 0) pe_int (fun _ _ => rfl)) (pv 1)) (pg_sub (pv 0) pe_int set_list))
    (pss_one (ps_ret (pv 2))))) pss_nil)
    (pss_cons (ps_asg (pe_op op_add (pe_ix ix_list (pv 0) pe_int (fun _ _ => rfl)) pe_int) (pg_sub (pv 0) pe_int set_list))
    (pss_cons (ps_set (i := 3) nd rfl (Or.inl rfl) (pe_op op_mod (pe_callTy call_int1 (by rfl) T.z_int (by decide +kernel) (pa_cons (pe_op op_mul (pe_op op_add (pe_ix ix_list (pv 0) pe_int (fun _ _ => rfl)) (pe_op op_mul pe_int (pe_ix ix_list (pv 0) pe_int (fun _ _ => rfl)))) pe_int) pa_nil)) pe_int))
    (pss_cons (ps_asg (pe_op op_add (pe_op op_mod (pe_callTy call_int1 (by rfl) T.z_int (by decide +kernel) (pa_cons (pe_op op_add (pe_op op_mul (pv 3) pe_int) pe_int) pa_nil)) pe_int) pe_int) (pg_sub (pv 0) pe_int set_list))
    (pss_cons (ps_if (pt_cmpR op_lt (pv 1) (pe_op op_pow pe_int pe_int) (nomark _)) (pss_one (ps_ret (pe_op op_mod (pe_callTy call_int1 (by rfl) T.z_int (by decide +kernel) (pa_cons (pe_op op_fdiv (pe_op op_add (pe_op op_mul (pv 3) pe_int) (pe_ix ix_list (pv 0) pe_int (fun _ _ => rfl))) pe_int) pa_nil)) (pv 1)))) pss_nil)
    (pss_cons (ps_set (i := 4) nd rfl (Or.inl rfl) (pe_op op_mul (pe_op op_add (pe_op op_mul (pv 3) pe_int) (pe_ix ix_list (pv 0) pe_int (fun _ _ => rfl))) (pe_op op_pow pe_int pe_int)))
    (pss_one (ps_ret (pe_op op_mod (pe_callTy call_int1 (by rfl) T.z_int (by decide +kernel) (pa_cons (pe_op op_add (pe_op op_add (pv 4) (pe_op op_mul (pe_op op_pow (pe_ix ix_list (pv 0) pe_int (fun _ _ => rfl)) pe_int) pe_int)) (pv 3)) pa_nil)) (pv 1)))))))))), ?_⟩
    repeat walk_at "st"
    refine ifB (fun e => ?_) (fun e => ?_)
    · repeat walk_at "st"
      exact k _ _ (Int.emod_nonneg _ (by omega)) (Int.emod_lt_of_pos _ m0) ⟨x / m, y, z, upd_same, Int.ediv_nonneg x0 (by omega), y1, y2⟩ (But.refl _ _).upd
    · repeat walk_at "st"
      refine ifT (decide_eq_true (show m < 2 ^ 40 from m1)) ?_
      repeat walk_at "st"
      exact k _ _ (Int.emod_nonneg _ (by omega)) (Int.emod_lt_of_pos _ m0) ⟨_, _, _, upd_same, x0, by omega, by omega⟩ (((But.refl _ _).upd).upd)
local macro_rules | `(tactic| walk_at "boxtail") => `(tactic| (
  repeat walk_at "st"
  refine ⟨szL (Nat.le_of_ble_eq_true rfl), fun p hp => ?_⟩
  repeat walk_at "st"
  refine' ⟨_, _, _, _, rfl, rfl, SqL.of upd_same, pick2 _ _ _, ?_⟩
  repeat walk_at "st"
  refine ⟨szL (Nat.le_of_ble_eq_true rfl), fun q hq => ?_⟩))
/-- the box of a cell -/
def spBox (K : PySem.W.Frag) : Sp := fun vs H Q _ => ∃ (a : Addr) (ns : List Int) (i own : Int), vs = [.ref a, .int i, .int own] ∧ SqL K H a (ns.map V.int) ∧ 0 ≤ i ∧ i < 1000 ∧ 0 ≤ own ∧ own < 1000 ∧
  ∀ (H' : Hp) (p : Addr), Same H H' → H p = none → Box H' p → Q (.ref p) H'
theorem ok_box (T : Txt K mg) : FnOk P w K mg base CX0 1 T.a__law_box T.d__law_box ["_law_script", "_law_k", "_law_own"] (spBox K) := by
  refine T.F__law_box.ok sc__law_box (fun vs H Q E h => ?_) (fun cdv A outer s H vs Q E hr h => ?_)
  · obtain ⟨a, ns, i, own, rfl, _⟩ := h
    rfl
  · obtain ⟨a, ns, i, own, rfl, hS, i0, i1, o0, o1, k⟩ := h
    have nd := sc__law_box.nd
    refine ⟨_, (pss_cons (ps_set (i := 3) nd rfl (Or.inl rfl) (pe_op op_add (pe_op op_add (pe_op op_mul pe_int (pv 1)) (pe_op op_mul pe_int (pv 2))) pe_int))
    (pss_cons (ps_if (pt_cmpR op_lt (pv 1) (pe_callB call_len_seq (by rfl) T.z_len (by decide +kernel) (pa_cons (pv 0) pa_nil)) (nomark _)) (pss_one (ps_set (i := 3) nd rfl (Or.inl rfl) (pe_callB call_abs (by rfl) T.z_abs (by decide +kernel) (pa_cons (pe_ix ix_list (pv 0) (pv 1) (fun _ _ => rfl)) pa_nil)))) (pss_one (ps_if (pt_cmpR op_gt (pe_callB call_len_seq (by rfl) T.z_len (by decide +kernel) (pa_cons (pv 0) pa_nil)) pe_int (nomark _)) (pss_one (ps_set (i := 3) nd rfl (Or.inl rfl) (pe_op op_add (pv 3) (pe_op op_mul (pe_op op_mod (pe_callTy call_int1 (by rfl) T.z_int (by decide +kernel) (pa_cons (pe_callB call_abs (by rfl) T.z_abs (by decide +kernel) (pa_cons (pe_ix ix_list (pv 0) (pe_op op_mod (pe_callTy call_int1 (by rfl) T.z_int (by decide +kernel) (pa_cons (pv 1) pa_nil)) (pe_callB call_len_seq (by rfl) T.z_len (by decide +kernel) (pa_cons (pv 0) pa_nil))) (fun _ _ => rfl)) pa_nil)) pa_nil)) pe_int) pe_int)))) pss_nil)))
    (pss_cons (ps_set (i := 4) nd rfl (Or.inl rfl) (pe_op op_add (pe_op op_mod (pe_callTy call_int1 (by rfl) T.z_int (by decide +kernel) (pa_cons (pe_op op_add (pe_op op_mul (pe_op op_mod (pe_callTy call_int1 (by rfl) T.z_int (by decide +kernel) (pa_cons (pv 3) pa_nil)) pe_int) pe_int) (pe_op op_mul pe_int (pe_op op_add (pv 1) (pe_op op_mul pe_int (pv 2))))) pa_nil)) pe_int) pe_int))
    (pss_one (ps_ret (pe_lst (pa_cons (pe_ix ix_list (pe_lst (pa_cons pe_int (pa_cons (pv 3) pa_nil))) (pe_callTy call_int1 (by rfl) T.z_int (by decide +kernel) (pa_cons (pe_cmpR op_ge (pv 3) (pe_op op_pow pe_int pe_int) (nomark _)) pa_nil)) (fun _ _ => rfl)) (pa_cons (pv 4) (pa_cons pe_int pa_nil))))))))), ?_⟩
    repeat walk_at "st"
    refine ifB (fun e => ?_) (fun e => ?_)
    · have e := of_decide_eq_true e
      rw [List.length_map] at e
      obtain ⟨z, hz⟩ := ints_at i0 e
      refine ⟨_, rfl, _, rfl, _, _, _, _, rfl, rfl, hS, hz, ?_⟩
      have c0 := natAbs_abs (i := z)
      walk_at "boxtail"
      exact k _ _ ((same_new (by assumption)).trans (same_new (by assumption))) ((same_new (by assumption)).free (by assumption)) ⟨_, _, _, upd_same, ite_ge0 (by decide) c0, by walk_at "om", by walk_at "om"⟩
    · repeat walk_at "st"
      refine ifB (fun e1 => ?_) (fun e1 => ?_)
      · have e1 := of_decide_eq_true e1
        repeat walk_at "st"
        rw [List.length_map] at e1
        obtain ⟨z, hz⟩ := ints_at (ns := ns) (k := i % ((ns.map V.int).length : Nat)) (Int.emod_nonneg _ (by rw [List.length_map]; omega)) (by rw [List.length_map]; exact Int.emod_lt_of_pos _ (by omega))
        refine ⟨_, _, _, _, rfl, rfl, hS, hz, ?_⟩
        have c0 := natAbs_abs (i := z)
        walk_at "boxtail"
        exact k _ _ ((same_new (by assumption)).trans (same_new (by assumption))) ((same_new (by assumption)).free (by assumption)) ⟨_, _, _, upd_same, ite_ge0 (by decide) (by walk_at "om"), by walk_at "om", by walk_at "om"⟩
      · repeat walk_at "st"
        walk_at "boxtail"
        exact k _ _ ((same_new (by assumption)).trans (same_new (by assumption))) ((same_new (by assumption)).free (by assumption)) ⟨_, _, _, upd_same, ite_ge0 (by decide) (by walk_at "om"), by walk_at "om", by walk_at "om"⟩

/-- one of the items of a list -/
def spPick : Sp := fun vs H Q _ => ∃ (b L : Addr) (xs : List V), vs = [.ref b, .ref L] ∧ Box H b ∧ L ≠ b ∧ H L = some (.lst xs) ∧ 0 < xs.length ∧ xs.length < 1000 ∧
  ∀ (v : V) (H' : Hp), v ∈ xs → Box H' b → But b H H' → Q v H'
theorem ok_pick (T : Txt K mg) : FnOk P w K mg base CX0 2 T.a__law_pick T.d__law_pick ["_law_box_here", "_law_items"] spPick := by
  have G__law_take : FnOk P w K mg base CX0 1 T.a__law_take T.d__law_take ["_law_box_here", "_law_many"] spTake := ok_take T
  refine T.F__law_pick.ok sc__law_pick (fun vs H Q E h => ?_) (fun cdv A outer s H vs Q E hr h => ?_)
  · obtain ⟨b, L, xs, rfl, _⟩ := h
    rfl
  · obtain ⟨b, L, xs, rfl, hB, hne, hL, l0, l1, k⟩ := h
    have nd := sc__law_pick.nd
    refine ⟨_, (pss_one (ps_ret (pe_ix ix_list (pv 1) (pe_call G__law_take (hr.mono (by first | decide | omega)) (by rfl) T.m__law_take T.k__law_take T.b__law_take .nil pass0 (pa_cons (pv 0) (pa_cons (pe_callB call_len_seq (by rfl) T.z_len (by decide +kernel) (pa_cons (pv 1) pa_nil)) pa_nil))) (fun _ _ => rfl)))), ?_⟩
    repeat walk_at "st"
    refine ⟨b, _, rfl, hB, by omega, by omega, fun r H' r0 r1 B' k' => ?_⟩
    obtain ⟨v, hv, hz⟩ := mem_at r0 r1
    exact ⟨_, _, _, _, rfl, rfl, SqL.of (k' _ _ hne hL), hz, k v H' hv B' k'⟩

end
end K55
namespace K55
open PySem PySem.Spec PyProof.Rows L2 Rs
local macro_rules | `(tactic| walk_at "om") => `(tactic| first | omega | (dsimp only; omega))
local macro_rules | `(tactic| walk_at "side") => `(tactic| first | omega | (dsimp only; omega) | decide | (unfold CMul; omega) | (unfold CDiv; omega) | (unfold CPow; omega) | exact wide_div (b := 64) (by omega) (by omega) (by decide) (by decide))
local macro_rules | `(tactic| walk_at "hp") => `(tactic| first | assumption | exact upd_same)
local macro_rules | `(tactic| walk_at "sq") => `(tactic| first | assumption | exact SqL.of (by assumption) | exact SqL.of upd_same)
local macro_rules | `(tactic| walk_at "st") => `(tactic| first
  | refine ⟨_, rfl, ?_⟩
  | (refine ⟨_, _, rfl, rfl, And.intro ?side ?_⟩; (case side => walk_at "side"))
  | refine ⟨_, _, rfl, rfl, ?_⟩
  | (refine' ⟨_, _, _, _, rfl, rfl, SqL.of ?hp, ?atx, ?_⟩; (case hp => walk_at "hp"); (case atx => exact rfl))
  | (refine' ⟨_, _, _, _, rfl, rfl, ?hp, ?atx, ?_⟩; (case hp => walk_at "hp"); (case atx => exact rfl))
  | (refine' ⟨_, _, rfl, Or.inl ?sq, ?_⟩; (case sq => walk_at "sq"))
  | refine Or.inl ⟨_, rfl, ?_⟩
  | refine Or.inr ⟨_, rfl, ?_⟩)
local macro_rules | `(tactic| walk_at "evd") => `(tactic| first
  | exact evd_int
  | exact evd_str
  | exact evd_non
  | exact evd_bl
  | exact evd_nil
  | (refine evd_cons ?_ (fun _ => ?_) <;> walk_at "evd")
  | (refine evd_tup ?_ (Nat.le_of_ble_eq_true rfl); walk_at "evd"))

section
variable {P : Program} {w : World} {K : PySem.W.Frag} {mg : Str → Option Value} {base : Heap}
/-! forms made -/
theorem un1 {k : Nat} {A : Around} (r : Room k A) : A.units + 1 < cLine := by
  have := r.un
  omega
def fldF (t q c : Int) : List (Str × V) := putF "by" (.int c) (putF "plus" (.int q) (putF "times" (.int t) []))
def FormO (C : Addr) (H : Hp) (x : Addr) (t q c : Int) : Prop := ∃ dx, H x = some (.ins C dx (fldF t q c))
theorem FormO.fz {C : Addr} {H H' : Hp} {x : Addr} {t q c : Int} (h : FormO C H x t q c) (k : Fz H H') : FormO C H' x t q c := by
  obtain ⟨dx, h⟩ := h
  exact ⟨dx, k _ _ trivial h⟩
theorem ok_whole (T : Txt K mg) : FnOk P w K mg base CX0 1 T.a_is_whole T.d_is_whole ["value"] spWhole := by
  refine T.F_is_whole.ok sc_is_whole (fun vs H Q E h => ?_) (fun cdv A outer s H vs Q E hr h => ?_)
  · obtain ⟨b, v, rfl, _⟩ := h
    rfl
  · obtain ⟨b, v, rfl, hv, k⟩ := h
    have nd := sc_is_whole.nd
    refine ⟨_, (pss_one (ps_ret (pe_and (pe_callB call_isi (by rfl) T.z_isinstance (by decide +kernel) (pa_cons (pv 0) (pa_cons (pe_bltn (v := .ty "int") (u := .type "int") (by rfl) T.z_int (by decide +kernel) (by exact rfl)) pa_nil))) (pe_one (pe_not (pe_callB call_isi (by rfl) T.z_isinstance (by decide +kernel) (pa_cons (pv 0) (pa_cons (pe_bltn (v := .ty "bool") (u := .type "bool") (by rfl) T.z_bool (by decide +kernel) (by exact rfl)) pa_nil)))))))), ?_⟩
    obtain ⟨t, ty, ki, kb⟩ := hv.ty (K := K)
    refine ⟨_, rfl, _, _, _, _, _, rfl, .ty _, ty, kit_ty ki, _, rfl, ifB (fun e => ?_) (fun e => ?_)⟩
    · refine ⟨_, rfl, _, _, _, _, _, rfl, .ty _, ty, kit_ty kb, _, rfl, ?_⟩
      rw [isInt_bl e]
      exact k
    · show Q (.bl false) H
      rw [isInt_no e]
      exact k
def spFormG (C : Addr) : Sp := fun vs H Q _ => ∃ (x dx : Addr) (t q c : Int), vs = [.ref x, .int t, .int q, .int c] ∧ H x = some (.ins C dx []) ∧ 1 ≤ c ∧ Q .non (upd H x (.ins C dx (fldF t q c)))
theorem ok_formG (T : Txt K mg) : FnOk P w K mg base CX0 2 T.a_Form___init__ T.d_Form___init__ ["self", "times", "plus", "by"] (spFormG T.c_Form) := by
  have G_is_whole : FnOk P w K mg base CX0 1 T.a_is_whole T.d_is_whole ["value"] spWhole := ok_whole T
  refine T.F_Form___init__.ok sc_Form___init__ (fun vs H Q E h => ?_) (fun cdv A outer s H vs Q E hr h => ?_)
  · obtain ⟨x, dx, t, q, c, rfl, _⟩ := h
    rfl
  · obtain ⟨x, dx, t, q, c, rfl, hx, hc, kn⟩ := h
    have nd := sc_Form___init__.nd
    refine ⟨_, (pss_cons (ps_if (pt_not (pt_val (pe_call G_is_whole (hr.mono (by first | decide | omega)) (by rfl) T.m_is_whole T.k_is_whole T.b_is_whole .nil pass0 (pa_cons (pv 1) pa_nil)))) (pss_one ps_never) pss_nil)
    (pss_cons (ps_if (pt_not (pt_val (pe_call G_is_whole (hr.mono (by first | decide | omega)) (by rfl) T.m_is_whole T.k_is_whole T.b_is_whole .nil pass0 (pa_cons (pv 2) pa_nil)))) (pss_one ps_never) pss_nil)
    (pss_cons (ps_if (PW.pt (pw_or (pt_not (pt_val (pe_call G_is_whole (hr.mono (by first | decide | omega)) (by rfl) T.m_is_whole T.k_is_whole T.b_is_whole .nil pass0 (pa_cons (pv 3) pa_nil)))) (pw_or1 (pt_cmpR op_lt (pv 3) pe_int (nomark _))))) (pss_one ps_never) pss_nil)
    (pss_cons (ps_fld (pv 0) (pv 1) rfl)
    (pss_cons (ps_fld (pv 0) (pv 2) rfl)
    (pss_one (ps_fld (pv 0) (pv 3) rfl))))))), ?_⟩
    refine ⟨_, rfl, x, _, rfl, trivial, _, rfl, ifF rfl ?_⟩
    refine ⟨_, rfl, x, _, rfl, trivial, _, rfl, ifF rfl ?_⟩
    refine ⟨_, rfl, x, _, rfl, trivial, _, rfl, ifF rfl ?_⟩
    refine ⟨_, rfl, _, _, rfl, rfl, _, rfl, ifF (decide_eq_false (by omega)) ?_⟩
    refine ⟨_, rfl, _, rfl, x, T.c_Form, dx, _, rfl, hx, T.C_Form, T.n_Form_times, by decide, ?_⟩
    refine ⟨_, rfl, _, rfl, x, T.c_Form, dx, _, rfl, upd_same, T.C_Form, T.n_Form_plus, by show 1 < 1000; decide, ?_⟩
    refine ⟨_, rfl, _, rfl, x, T.c_Form, dx, _, rfl, upd_same, T.C_Form, T.n_Form_by, by show 2 < 1000; decide, ?_⟩
    show Q .non _
    rw [upd_upd, upd_upd]
    exact kn
def frontS (t : Int) : Str := if t = 1 then Str.ofString "n" else if t = -1 then Str.ofString "-n" else nS t ++ Str.ofString "n"
def upperS (t q : Int) : Str := if t = 0 then nS q else if q = 0 then frontS t else frontS t ++ plusS q
def formText (t q c : Int) : Str := if c = 1 then upperS t q else Str.ofString "(" ++ (upperS t q ++ (Str.ofString ")/" ++ nS c))
def Mid (n : Int) : Prop := n.natAbs < 10 ^ 18
theorem nS_mid {n : Int} (h : Mid n) : (nS n).length ≤ 19 := by
  have e := PySem.int_text_length_le10 (a := n) (k := 18) (by decide) h
  unfold nS
  rw [PySem.ofString_length]
  omega
theorem front_len {t : Int} (h : Mid t) : (frontS t).length ≤ 20 := by
  unfold frontS
  split
  · decide
  · split
    · decide
    · have := nS_mid h
      have l : (Str.ofString "n").length = 1 := by decide
      rw [Str.length_append]
      omega
theorem upper_len {t q : Int} (h : Mid t) (g : Mid q) : (upperS t q).length ≤ 40 := by
  have a := nS_mid g
  have b := front_len h
  have c := plus_len g
  unfold upperS
  split
  · omega
  · split
    · omega
    · rw [Str.length_append]
      omega
def spUpper : Sp := fun vs H Q _ => ∃ (t q : Int), vs = [.int t, .int q] ∧ Mid t ∧ Mid q ∧ Q (.str (upperS t q)) H
theorem ok_upper (T : Txt K mg) : FnOk P w K mg base CX0 1 T.a__upper T.d__upper ["times", "plus"] spUpper := by
  refine T.F__upper.ok sc__upper (fun vs H Q E h => ?_) (fun cdv A outer s H vs Q E hr h => ?_)
  · obtain ⟨t, q, rfl, _⟩ := h
    rfl
  · obtain ⟨t, q, rfl, mt, mq, k⟩ := h
    have nd := sc__upper.nd
    refine ⟨_, (pss_cons (ps_if (pt_cmpR op_eq (pv 0) pe_int (nomark _)) (pss_one (ps_ret (pe_joined1 (pe_fmt (pv 1))))) pss_nil)
    (pss_cons (ps_set (i := 2) nd rfl (Or.inl rfl) (pe_joined (.cons (pe_fmt (pv 0)) (.cons pe_str .nil))))
    (pss_cons (ps_if (pt_cmpR op_eq (pv 0) pe_int (nomark _)) (pss_one (ps_set (i := 2) nd rfl (Or.inl rfl) pe_str)) pss_nil)
    (pss_cons (ps_if (pt_cmpR op_eq (pv 0) (pe_un un_neg pe_int) (nomark _)) (pss_one (ps_set (i := 2) nd rfl (Or.inl rfl) pe_str)) pss_nil)
    (pss_one (ps_ret (pe_ifExp (pt_cmpR op_ne (pv 1) pe_int (nomark _)) (pe_joined (.cons (pe_fmt (pv 2)) (.cons (pe_fmtPlus (pv 1) (pe_joined1 pe_str)) .nil))) (pv 2)))))))), ?_⟩
    have lt := log_small mt
    have lq := log_small mq
    have b1 := nS_mid mt
    have b2 := nS_mid mq
    have b3 := front_len mt
    have b4 := plus_len mq
    have e9 := sizeLine_eq
    have w0 : Str.empty.length = 0 := rfl
    have w1 : (Str.ofString "n").length = 1 := by decide
    have b1' : (Str.ofString (toString t)).length ≤ 19 := b1
    refine seqif_go ⟨_, rfl, rfl, _, rfl, ?_⟩
    rw [dec_int]
    refine ifB (fun e => ?_) (fun e => ?_)
    · have e : t = 0 := by simpa using e
      unfold upperS at k
      rw [if_pos e] at k
      exact ⟨_, rfl, .inr ⟨_, rfl, lq, k⟩⟩
    · have e : ¬ t = 0 := by simpa using e
      unfold upperS at k
      rw [if_neg e] at k
      dsimp only [tNext]
      refine ⟨_, rfl, .inr ⟨_, rfl, lt, _, rfl, by simp only [Str.length_append]; omega, _, rfl, by simp only [Str.length_append]; omega, ?_⟩⟩
      dsimp only [gName]
      refine seq_k (fun σ' H' => σ' = [some (.int t), some (.int q), some (.str (if t = 1 then Str.ofString "n" else nS t ++ Str.ofString "n"))] ∧ H' = H) (fun σ' H' hC => ?_) (fun R hR => ⟨_, rfl, rfl, _, rfl, ?_⟩)
      · obtain ⟨rfl, rfl⟩ := hC
        refine seq_k (fun σ' H2 => σ' = [some (.int t), some (.int q), some (.str (frontS t))] ∧ H2 = H') (fun σ' H2 hC => ?_) (fun R hR => ⟨_, rfl, _, rfl, rfl, _, rfl, ?_⟩)
        · obtain ⟨rfl, rfl⟩ := hC
          refine ⟨_, rfl, rfl, _, rfl, ?_⟩
          rw [dec_int]
          refine ifB (fun e2 => ?_) (fun e2 => ?_)
          · have e2 : ¬ q = 0 := by simpa using e2
            rw [if_neg e2] at k
            refine ⟨_, rfl, .inl ⟨_, rfl, by omega, _, rfl, by simp only [Str.length_append]; omega, _, rfl, _, rfl, mq, _, rfl, by simp only [Str.length_append]; omega, ?_⟩⟩
            simp only [Str.empty_append]
            exact k
          · have e2 : q = 0 := by simpa using e2
            rw [if_pos e2] at k
            exact ⟨_, rfl, k⟩
        · rw [dec_int]
          refine ifB (fun e2 => ?_) (fun e2 => ?_)
          · have e2 : t = -1 := by simpa using e2
            refine hR _ _ ⟨?_, rfl⟩
            have ef : frontS t = Str.ofString "-n" := by
              unfold frontS
              rw [if_neg (by omega), if_pos e2]
            rw [ef]
            rfl
          · have e2 : ¬ t = -1 := by simpa using e2
            refine hR _ _ ⟨?_, rfl⟩
            unfold frontS
            rw [if_neg e2]
      · rw [dec_int]
        refine ifB (fun e2 => ?_) (fun e2 => ?_)
        · have e2 : t = 1 := by simpa using e2
          refine hR _ _ ⟨?_, rfl⟩
          rw [if_pos e2]
          rfl
        · have e2 : ¬ t = 1 := by simpa using e2
          refine hR _ _ ⟨?_, rfl⟩
          rw [if_neg e2]
          simp only [Str.empty_append]
          rfl
def spFText : Sp := fun vs H Q _ => ∃ (t q c : Int), vs = [.int t, .int q, .int c] ∧ Mid t ∧ Mid q ∧ 1 ≤ c ∧ Mid c ∧ Q (.str (formText t q c)) H
theorem ok_ftext (T : Txt K mg) : FnOk P w K mg base CX0 2 T.a__text T.d__text ["times", "plus", "by"] spFText := by
  have G__upper : FnOk P w K mg base CX0 1 T.a__upper T.d__upper ["times", "plus"] spUpper := ok_upper T
  refine T.F__text.ok sc__text (fun vs H Q E h => ?_) (fun cdv A outer s H vs Q E hr h => ?_)
  · obtain ⟨t, q, c, rfl, _⟩ := h
    rfl
  · obtain ⟨t, q, c, rfl, mt, mq, c1, mc, k⟩ := h
    have nd := sc__text.nd
    refine ⟨_, (pss_cons (ps_set (i := 3) nd rfl (Or.inl rfl) (pe_call G__upper (hr.mono (by first | decide | omega)) (by rfl) T.m__upper T.k__upper T.b__upper .nil pass0 (pa_cons (pv 0) (pa_cons (pv 1) pa_nil))))
    (pss_one (ps_ret (pe_ifExp (pt_cmpR op_gt (pv 2) pe_int (nomark _)) (pe_joined (.cons pe_str (.cons (pe_fmt (pv 3)) (.cons pe_str (.cons (pe_fmt (pv 2)) .nil))))) (pv 3))))), ?_⟩
    have b1 := upper_len mt mq
    have b2 := nS_mid mc
    have e9 := sizeLine_eq
    have w0 : Str.empty.length = 0 := rfl
    have w1 : (Str.ofString "(").length = 1 := by decide
    have w2 : (Str.ofString ")/").length = 2 := by decide
    have b2' : (Str.ofString (toString c)).length ≤ 19 := b2
    refine ⟨_, rfl, _, rfl, t, q, rfl, mt, mq, ?_⟩
    dsimp only [gName]
    refine ⟨_, rfl, _, _, rfl, rfl, _, rfl, ifD (fun e => ?_) (fun e => ?_)⟩
    · unfold formText at k
      rw [if_neg (by omega)] at k
      refine ⟨_, rfl, by simp only [Str.length_append]; omega, _, rfl, .inl ⟨_, rfl, by omega, _, rfl, by simp only [Str.length_append]; omega, _, rfl, by simp only [Str.length_append]; omega, _, rfl, .inr ⟨_, rfl, log_small mc, _, rfl, by simp only [Str.length_append]; omega, ?_⟩⟩⟩
      show Q (.str (Str.empty ++ Str.ofString "(" ++ upperS t q ++ Str.ofString ")/" ++ nS c)) H
      simp only [Str.empty_append, Str.append_assoc]
      exact k
    · unfold formText at k
      rw [if_pos (by omega)] at k
      exact ⟨_, rfl, k⟩
def spFStr (C : Addr) : Sp := fun vs H Q _ => ∃ (x : Addr) (t q c : Int), vs = [.ref x] ∧ FormO C H x t q c ∧ Mid t ∧ Mid q ∧ 1 ≤ c ∧ Mid c ∧ Q (.str (formText t q c)) H
theorem ok_fstr (T : Txt K mg) : FnOk P w K mg base CX0 3 T.a_Form___str__ T.d_Form___str__ ["self"] (spFStr T.c_Form) := by
  have G__text : FnOk P w K mg base CX0 2 T.a__text T.d__text ["times", "plus", "by"] spFText := ok_ftext T
  refine T.F_Form___str__.ok sc_Form___str__ (fun vs H Q E h => ?_) (fun cdv A outer s H vs Q E hr h => ?_)
  · obtain ⟨x, t, q, c, rfl, _⟩ := h
    rfl
  · obtain ⟨x, t, q, c, rfl, ⟨dx, hx⟩, mt, mq, c1, mc, k⟩ := h
    have nd := sc_Form___str__.nd
    refine ⟨_, (pss_one (ps_ret (pe_callTy SkE.call_str_str (by rfl) T.z_str (by decide +kernel) (pa_cons (pe_call G__text (hr.mono (by first | decide | omega)) (by rfl) T.m__text T.k__text T.b__text .nil pass0 (pa_cons (pe_fld (pv 0) rfl) (pa_cons (pe_fld (pv 0) rfl) (pa_cons (pe_fld (pv 0) rfl) pa_nil)))) pa_nil)))), ?_⟩
    refine ⟨_, rfl, x, _, dx, _, _, rfl, hx, T.C_Form, T.n_Form_times, rfl, _, rfl, x, _, dx, _, _, rfl, hx, T.C_Form, T.n_Form_plus, rfl, _, rfl, x, _, dx, _, _, rfl, hx, T.C_Form, T.n_Form_by, rfl, ?_⟩
    exact ⟨t, q, c, rfl, mt, mq, c1, mc, _, rfl, k⟩
def spFEq (K : PySem.W.Frag) (C : Addr) : Sp := fun vs H Q _ => ∃ (x : Addr) (t q c : Int) (v : V), vs = [.ref x, v] ∧ FormO C H x t q c ∧
  ((∃ y t' q' c', v = .ref y ∧ FormO C H y t' q' c' ∧ Q (.bl (decide (t = t' ∧ q = q' ∧ c = c'))) H) ∨ ∃ T, TyX K H v T ∧ PySem.W.kitOne K T (.ref C) = some false ∧ Q (.bl false) H)
theorem ok_feq (T : Txt K mg) : FnOk P w K mg base CX0 1 T.a_Form___eq__ T.d_Form___eq__ ["self", "other"] (spFEq K T.c_Form) := by
  refine T.F_Form___eq__.ok sc_Form___eq__ (fun vs H Q E h => ?_) (fun cdv A outer s H vs Q E hr h => ?_)
  · obtain ⟨x, t, q, c, v, rfl, _⟩ := h
    rfl
  · obtain ⟨x, t, q, c, v, rfl, ⟨dx, hx⟩, hv⟩ := h
    have nd := sc_Form___eq__.nd
    refine ⟨_, (pss_one (ps_ret (pe_and (pe_callB call_isi (by rfl) T.z_isinstance (by decide +kernel) (pa_cons (pv 1) (pa_cons (pe_glob rfl T.m_Form (rel_ref _)) pa_nil))) (pe_and (pe_cmpR op_eq (pe_fld (pv 0) rfl) (pe_fld (pv 1) rfl) (nomark _)) (pe_and (pe_cmpR op_eq (pe_fld (pv 0) rfl) (pe_fld (pv 1) rfl) (nomark _)) (pe_one (pe_cmpR op_eq (pe_fld (pv 0) rfl) (pe_fld (pv 1) rfl) (nomark _)))))))), ?_⟩
    rcases hv with ⟨y, t', q', c', rfl, ⟨dy, hy⟩, k⟩ | ⟨TT, ty, kt, k⟩
    · refine ⟨_, rfl, _, _, _, _, _, rfl, .own _, T.I_Form.ty T.C_Form hy, kit_self, _, rfl, ifT rfl ?_⟩
      have no : ¬ (t = t' ∧ q = q' ∧ c = c') → Q (.bl false) H := fun n => by
        rw [decide_eq_false n] at k
        exact k
      refine ⟨_, rfl, x, _, dx, _, _, rfl, hx, T.C_Form, T.n_Form_times, rfl, _, rfl, y, _, dy, _, _, rfl, hy, T.C_Form, T.n_Form_times, rfl, rfl, _, rfl, ?_⟩
      rw [dec_int]
      refine ifB (fun e0 => ?_) (fun e0 => no fun z => by simp [z.1] at e0)
      have e0 : t = t' := by simpa using e0
      refine ⟨_, rfl, x, _, dx, _, _, rfl, hx, T.C_Form, T.n_Form_plus, rfl, _, rfl, y, _, dy, _, _, rfl, hy, T.C_Form, T.n_Form_plus, rfl, rfl, _, rfl, ?_⟩
      rw [dec_int]
      refine ifB (fun e1 => ?_) (fun e1 => no fun z => by simp [z.2.1] at e1)
      have e1 : q = q' := by simpa using e1
      refine ⟨_, rfl, x, _, dx, _, _, rfl, hx, T.C_Form, T.n_Form_by, rfl, _, rfl, y, _, dy, _, _, rfl, hy, T.C_Form, T.n_Form_by, rfl, rfl, ?_⟩
      have e2 : decide (V.int c = V.int c') = decide (t = t' ∧ q = q' ∧ c = c') := by
        rw [dec_int]
        simp [e0, e1]
        rfl
      rw [e2]
      exact k
    · exact ⟨_, rfl, _, _, _, _, _, rfl, .own _, ty, kt, _, rfl, ifF rfl k⟩

/-! the law's own text and worth -/
structure FormR (t q c : Int) : Prop where
  t1 : t.natAbs < 10 ^ 9
  q1 : q.natAbs < 10 ^ 9
  c1 : 1 ≤ c
  c2 : c < 10 ^ 9
def spFormText (K : PySem.W.Frag) : Sp := fun vs H Q _ => ∃ (p : Addr) (t q c : Int), vs = [.ref p] ∧ SqT K H p [.int t, .int q, .int c] ∧ FormR t q c ∧ ∀ H', Same H H' → Q (.str (formText t q c)) H'

/-! equal texts mean equal forms (behind formo.inc) -/
theorem digs {m : Nat} : ∀ c ∈ (Nat.toDigits 10 m).map Char.toNat, 48 ≤ c ∧ c ≤ 57 := by
  intro c hc
  obtain ⟨d, hd, rfl⟩ := List.mem_map.mp hc
  have h := Nat.isDigit_of_mem_toDigits (by decide) (by decide) hd
  simp only [Char.isDigit, Bool.and_eq_true, decide_eq_true_eq] at h
  exact ⟨h.1, h.2⟩
/-- the signs of a number -/
theorem nS_signs {n : Int} : ∀ c ∈ TL.tl (nS n), c = 45 ∨ (48 ≤ c ∧ c ≤ 57) := by
  intro c hc
  by_cases h : n < 0
  · rw [signs_neg h] at hc
    rcases List.mem_cons.mp hc with e | e
    · exact .inl e
    · exact .inr (digs c e)
  · rw [signs_pos (by omega)] at hc
    exact .inr (digs c hc)
theorem cut_at {x : Nat} : ∀ {a a' b b' : List Nat}, x ∉ a → x ∉ a' → a ++ x :: b = a' ++ x :: b' → a = a' ∧ b = b'
  | [], [], _, _, _, _, h => ⟨rfl, by simpa using h⟩
  | [], y :: a', _, _, _, n, h => by
    rw [List.nil_append, List.cons_append] at h
    injection h with h1 h2
    exact absurd (h1 ▸ List.mem_cons_self) n
  | y :: a, [], _, _, n, _, h => by
    rw [List.nil_append, List.cons_append] at h
    injection h with h1 h2
    exact absurd (h1 ▸ List.mem_cons_self) n
  | y :: a, z :: a', b, b', n, n', h => by
    rw [List.cons_append, List.cons_append] at h
    injection h with h1 h2
    obtain ⟨e1, e2⟩ := cut_at (fun m => n (List.mem_cons_of_mem _ m)) (fun m => n' (List.mem_cons_of_mem _ m)) h2
    exact ⟨by rw [h1, e1], e2⟩
theorem tl_inj {x y : Str} (h : TL.tl x = TL.tl y) : x = y := by
  obtain ⟨⟨a⟩⟩ := x
  obtain ⟨⟨b⟩⟩ := y
  have h : a = b := h
  rw [h]
def Nine (n : Int) : Prop := n.natAbs < 10 ^ 9
theorem signs_abs {n : Int} : (Nat.toDigits 10 n.natAbs).map Char.toNat = TL.tl (nS (n.natAbs : Int)) := by
  rw [signs_pos (n := (n.natAbs : Int)) (by omega)]
  rfl
theorem nS_injZ {n m : Int} (hn : Nine n) (hm : Nine m) (e : TL.tl (nS n) = TL.tl (nS m)) : n = m := by
  unfold Nine at hn hm
  have abs : (Nat.toDigits 10 n.natAbs).map Char.toNat = (Nat.toDigits 10 m.natAbs).map Char.toNat → (n.natAbs : Int) = m.natAbs := fun z => by
    rw [signs_abs, signs_abs] at z
    exact nS_inj (by omega) (by omega) (by omega) (by omega) (tl_inj z)
  have odd : ∀ {k : Nat} {l : List Nat}, 45 :: l ≠ (Nat.toDigits 10 k).map Char.toNat := fun {k l} z => by
    have := digs (m := k) 45 (z ▸ List.mem_cons_self)
    omega
  by_cases a : n < 0 <;> by_cases b : m < 0
  · rw [signs_neg a, signs_neg b] at e
    injection e with _ e
    have := abs e
    omega
  · rw [signs_neg a, signs_pos (by omega)] at e
    exact absurd e odd
  · rw [signs_pos (by omega), signs_neg b] at e
    exact absurd e.symm odd
  · rw [signs_pos (by omega), signs_pos (by omega)] at e
    have := abs e
    omega
theorem nS_ne {n : Int} : TL.tl (nS n) ≠ [] := by
  by_cases a : n < 0
  · rw [signs_neg a]
    simp
  · rw [signs_pos (by omega)]
    exact digits_ne
theorem nS_dash {n : Int} : TL.tl (nS n) ≠ [45] := by
  by_cases a : n < 0
  · rw [signs_neg a]
    intro e
    injection e with _ e
    exact digits_ne e
  · rw [signs_pos (by omega)]
    intro e
    have := digs (m := n.natAbs) 45 (e ▸ List.mem_cons_self)
    omega
def headL (t : Int) : List Nat := if t = 1 then [] else if t = -1 then [45] else TL.tl (nS t)
def tailL (q : Int) : List Nat := if q = 0 then [] else TL.tl (plusS q)
theorem front_tl {t : Int} : TL.tl (frontS t) = headL t ++ [110] := by
  unfold frontS headL
  split
  · rfl
  · split
    · rfl
    · rw [TL.tl_append]
      rfl
theorem upper_tl {t q : Int} : TL.tl (upperS t q) = if t = 0 then TL.tl (nS q) else headL t ++ 110 :: tailL q := by
  unfold upperS tailL
  split
  · rfl
  · split
    · rw [front_tl]
    · rw [TL.tl_append, front_tl, List.append_assoc]
      rfl
theorem head_signs {t : Int} : ∀ c ∈ headL t, c = 45 ∨ (48 ≤ c ∧ c ≤ 57) := by
  unfold headL
  split
  · intro c h
    cases h
  · split
    · intro c h
      simp only [List.mem_cons, List.not_mem_nil, or_false] at h
      exact .inl h
    · exact nS_signs
theorem plus_signs {q : Int} : ∀ c ∈ tailL q, c = 43 ∨ c = 45 ∨ (48 ≤ c ∧ c ≤ 57) := by
  unfold tailL plusS
  split
  · intro c h
    cases h
  · split
    · exact fun c h => .inr (nS_signs c h)
    · intro c h
      rw [TL.tl_append] at h
      rcases List.mem_append.mp h with h | h
      · have h : c ∈ [43] := h
        simp only [List.mem_cons, List.not_mem_nil, or_false] at h
        exact .inl h
      · exact .inr (nS_signs c h)
theorem upper_signs {t q : Int} : ∀ c ∈ TL.tl (upperS t q), c = 43 ∨ c = 45 ∨ c = 110 ∨ (48 ≤ c ∧ c ≤ 57) := by
  intro c h
  rw [upper_tl] at h
  split at h
  · rcases nS_signs c h with e | e
    · exact .inr (.inl e)
    · exact .inr (.inr (.inr e))
  · rcases List.mem_append.mp h with h | h
    · rcases head_signs c h with e | e
      · exact .inr (.inl e)
      · exact .inr (.inr (.inr e))
    · rcases List.mem_cons.mp h with e | h
      · exact .inr (.inr (.inl e))
      · rcases plus_signs c h with e | e | e
        · exact .inl e
        · exact .inr (.inl e)
        · exact .inr (.inr (.inr e))
theorem head_inj {t t' : Int} (h : Nine t) (h' : Nine t') (e : headL t = headL t') : t = t' := by
  unfold headL at e
  by_cases a : t = 1 <;> by_cases b : t' = 1
  · omega
  · rw [if_pos a, if_neg b] at e
    split at e
    · cases e
    · exact absurd e.symm nS_ne
  · rw [if_neg a, if_pos b] at e
    split at e
    · cases e
    · exact absurd e nS_ne
  · rw [if_neg a, if_neg b] at e
    by_cases c : t = -1 <;> by_cases d : t' = -1
    · omega
    · rw [if_pos c, if_neg d] at e
      exact absurd e.symm nS_dash
    · rw [if_neg c, if_pos d] at e
      exact absurd e nS_dash
    · rw [if_neg c, if_neg d] at e
      exact nS_injZ h h' e
theorem plus_tl {q : Int} (h : q ≠ 0) : tailL q = if q < 0 then TL.tl (nS q) else 43 :: TL.tl (nS q) := by
  unfold tailL plusS
  rw [if_neg h]
  split
  · rfl
  · rw [TL.tl_append]
    rfl
theorem tail_inj {q q' : Int} (h : Nine q) (h' : Nine q') (e : tailL q = tailL q') : q = q' := by
  have emp : ∀ {z : Int}, z ≠ 0 → tailL z ≠ [] := fun {z} hz => by
    rw [plus_tl hz]
    split
    · exact nS_ne
    · simp
  have dif : ∀ {z y : Int} {l : List Nat}, TL.tl (nS z) ≠ 43 :: l := fun {z y l} e => by
    have := nS_signs (n := z) 43 (e ▸ List.mem_cons_self)
    omega
  by_cases a : q = 0 <;> by_cases b : q' = 0
  · omega
  · rw [show tailL q = [] by unfold tailL; rw [if_pos a]] at e
    exact absurd e.symm (emp b)
  · rw [show tailL q' = [] by unfold tailL; rw [if_pos b]] at e
    exact absurd e (emp a)
  · rw [plus_tl a, plus_tl b] at e
    by_cases c : q < 0 <;> by_cases d : q' < 0
    · rw [if_pos c, if_pos d] at e
      exact nS_injZ h h' e
    · rw [if_pos c, if_neg d] at e
      exact absurd e (dif (y := 0))
    · rw [if_neg c, if_pos d] at e
      exact absurd e.symm (dif (y := 0))
    · rw [if_neg c, if_neg d] at e
      injection e with _ e
      exact nS_injZ h h' e
theorem upper_inj {t q t' q' : Int} (h1 : Nine t) (h2 : Nine q) (h3 : Nine t') (h4 : Nine q') (e : TL.tl (upperS t q) = TL.tl (upperS t' q')) : t = t' ∧ q = q' := by
  rw [upper_tl, upper_tl] at e
  have no : ∀ {z : Int}, 110 ∉ TL.tl (nS z) := fun {z} h => by
    have := nS_signs (n := z) 110 h
    omega
  have noH : ∀ {z : Int}, 110 ∉ headL z := fun {z} h => by
    have := head_signs (t := z) 110 h
    omega
  by_cases a : t = 0 <;> by_cases b : t' = 0
  · rw [if_pos a, if_pos b] at e
    exact ⟨by omega, nS_injZ h2 h4 e⟩
  · rw [if_pos a, if_neg b] at e
    exact absurd (e ▸ List.mem_append_right _ List.mem_cons_self) no
  · rw [if_neg a, if_pos b] at e
    exact absurd (e.symm ▸ List.mem_append_right _ List.mem_cons_self) no
  · rw [if_neg a, if_neg b] at e
    obtain ⟨e1, e2⟩ := cut_at noH noH e
    exact ⟨head_inj h1 h3 e1, tail_inj h2 h4 e2⟩
/-- equal texts mean equal forms -/
theorem formText_inj {t q c t' q' c' : Int} (h1 : Nine t) (h2 : Nine q) (h3 : Nine c) (h4 : Nine t') (h5 : Nine q') (h6 : Nine c') (e : formText t q c = formText t' q' c') : t = t' ∧ q = q' ∧ c = c' := by
  have big : ∀ {t q c : Int}, TL.tl (Str.ofString "(" ++ (upperS t q ++ (Str.ofString ")/" ++ nS c))) = 40 :: (TL.tl (upperS t q) ++ 41 :: 47 :: TL.tl (nS c)) := by
    intro t q c
    rw [TL.tl_append, TL.tl_append, TL.tl_append]
    rfl
  have no : ∀ {t q : Int} {x : Nat}, x = 40 ∨ x = 41 → x ∉ TL.tl (upperS t q) := fun {t q x} hx h => by
    have := upper_signs (t := t) (q := q) x h
    omega
  have e := congrArg TL.tl e
  unfold formText at e
  by_cases a : c = 1 <;> by_cases b : c' = 1
  · rw [if_pos a, if_pos b] at e
    obtain ⟨e1, e2⟩ := upper_inj h1 h2 h4 h5 e
    exact ⟨e1, e2, by omega⟩
  · rw [if_pos a, if_neg b, big] at e
    exact absurd (e ▸ List.mem_cons_self) (no (.inl rfl))
  · rw [if_neg a, if_pos b, big] at e
    exact absurd (e.symm ▸ List.mem_cons_self) (no (.inl rfl))
  · rw [if_neg a, if_neg b, big, big] at e
    injection e with _ e
    obtain ⟨e1, e2⟩ := cut_at (no (.inr rfl)) (no (.inr rfl)) e
    injection e2 with _ e2
    obtain ⟨u1, u2⟩ := upper_inj h1 h2 h4 h5 e1
    exact ⟨u1, u2, nS_injZ h3 h6 e2⟩

end
end K55
namespace K55
open PySem PySem.Spec PyProof.Rows L2 Rs
local macro_rules | `(tactic| walk_at "om") => `(tactic| first | omega | (dsimp only; omega))
local macro_rules | `(tactic| walk_at "side") => `(tactic| first | omega | (dsimp only; omega) | decide | (unfold CMul; omega) | (unfold CDiv; omega) | (unfold CPow; omega) | exact wide_div (b := 64) (by omega) (by omega) (by decide) (by decide))
local macro_rules | `(tactic| walk_at "hp") => `(tactic| first | assumption | exact upd_same)
local macro_rules | `(tactic| walk_at "sq") => `(tactic| first | assumption | exact SqL.of (by assumption) | exact SqL.of upd_same)
local macro_rules | `(tactic| walk_at "st") => `(tactic| first
  | refine ⟨_, rfl, ?_⟩
  | (refine ⟨_, _, rfl, rfl, And.intro ?side ?_⟩; (case side => walk_at "side"))
  | refine ⟨_, _, rfl, rfl, ?_⟩
  | (refine' ⟨_, _, _, _, rfl, rfl, SqL.of ?hp, ?atx, ?_⟩; (case hp => walk_at "hp"); (case atx => exact rfl))
  | (refine' ⟨_, _, _, _, rfl, rfl, ?hp, ?atx, ?_⟩; (case hp => walk_at "hp"); (case atx => exact rfl))
  | (refine' ⟨_, _, rfl, Or.inl ?sq, ?_⟩; (case sq => walk_at "sq"))
  | refine Or.inl ⟨_, rfl, ?_⟩
  | refine Or.inr ⟨_, rfl, ?_⟩)
local macro_rules | `(tactic| walk_at "evd") => `(tactic| first
  | exact evd_int
  | exact evd_str
  | exact evd_non
  | exact evd_bl
  | exact evd_nil
  | (refine evd_cons ?_ (fun _ => ?_) <;> walk_at "evd")
  | (refine evd_tup ?_ (Nat.le_of_ble_eq_true rfl); walk_at "evd"))

section
variable {P : Program} {w : World} {K : PySem.W.Frag} {mg : Str → Option Value} {base : Heap}
/-! lanes: what is drawn, what is made -/
def ways : List Str := ["up", "down"]
def signs : List Str := ["+", "-"]
def deeds : List Str := ["add", "put"]
/-- a lane's data -/
structure LD where
  w : Str
  s : Str
  t : Int
  q : Int
  c : Int
  d : Str
  deriving DecidableEq
structure LI (l : LD) : Prop where
  w : l.w ∈ ways
  s : l.s ∈ signs
  d : l.d ∈ deeds
  t1 : -1000 ≤ l.t
  t2 : l.t ≤ 1000
  q1 : -1000 ≤ l.q
  q2 : l.q ≤ 1000
  c1 : 1 ≤ l.c
  c2 : l.c ≤ 9
theorem LI.r {l : LD} (h : LI l) : FormR l.t l.q l.c := by
  have := h.t1
  have := h.t2
  have := h.q1
  have := h.q2
  have := h.c1
  have := h.c2
  exact ⟨by omega, by omega, by omega, by omega⟩
def LaneV (H : Hp) (v : V) (l : LD) : Prop := ∃ p f, v = .ref p ∧ H p = some (.tup [.str l.w, .str l.s, .ref f, .str l.d]) ∧ H f = some (.tup [.int l.t, .int l.q, .int l.c]) ∧ LI l
theorem LaneV.fz {H H' : Hp} {v : V} {l : LD} (h : LaneV H v l) (k : Fz H H') : LaneV H' v l := by
  obtain ⟨p, f, e, hp, hf, i⟩ := h
  exact ⟨p, f, e, k _ _ trivial hp, k _ _ trivial hf, i⟩
def spLane : Sp := fun vs H Q _ => ∃ (b : Addr) (far : Int), vs = [.ref b, .int far] ∧ Box H b ∧ 0 < far ∧ far ≤ 1000 ∧ ∀ (v : V) (l : LD) (H' : Hp), LaneV H' v l → Box H' b → But b H H' → Q v H'
theorem mem3 {v : V} {a b c : Str} {ys : List Str} (h : v ∈ [V.str a, V.str b, V.str c]) (ha : a ∈ ys) (hb : b ∈ ys) (hc : c ∈ ys) : ∃ x, v = .str x ∧ x ∈ ys := by
  simp only [List.mem_cons, List.not_mem_nil, or_false] at h
  rcases h with h | h | h
  · exact ⟨a, h, ha⟩
  · exact ⟨b, h, hb⟩
  · exact ⟨c, h, hc⟩
/-! Lane -/
def fldL (l : LD) (y : Addr) : List (Str × V) := putF "deed" (.str l.d) (putF "shift" (.ref y) (putF "sign" (.str l.s) (putF "way" (.str l.w) [])))
def LaneO (CL CF : Addr) (H : Hp) (v : V) (l : LD) : Prop := ∃ x dx y, v = .ref x ∧ H x = some (.ins CL dx (fldL l y)) ∧ FormO CF H y l.t l.q l.c ∧ LI l
theorem LaneO.fz {CL CF : Addr} {H H' : Hp} {v : V} {l : LD} (h : LaneO CL CF H v l) (k : Fz H H') : LaneO CL CF H' v l := by
  obtain ⟨x, dx, y, e, hx, hy, i⟩ := h
  exact ⟨x, dx, y, e, k _ _ trivial hx, hy.fz k, i⟩
def spLaneG (CL CF : Addr) : Sp := fun vs H Q _ => ∃ (x dx y : Addr) (l : LD), vs = [.ref x, .str l.w, .str l.s, .ref y, .str l.d] ∧ H x = some (.ins CL dx []) ∧ LI l ∧ FormO CF H y l.t l.q l.c ∧ Q .non (upd H x (.ins CL dx (fldL l y)))
theorem isOne_mem {y : Str} {ys : List Str} (h : y ∈ ys) : isOne ys (.str y) = true := by
  show ys.any (· == y) = true
  rw [List.any_eq_true]
  exact ⟨y, h, by simp⟩
theorem ok_laneG (T : Txt K mg) : FnOk P w K mg base CX0 2 T.a_Lane___init__ T.d_Lane___init__ ["self", "way", "sign", "shift", "deed"] (spLaneG T.c_Lane T.c_Form) := by
  refine T.F_Lane___init__.ok sc_Lane___init__ (fun vs H Q E h => ?_) (fun cdv A outer s H vs Q E hr h => ?_)
  · obtain ⟨x, dx, y, l, rfl, _⟩ := h
    rfl
  · obtain ⟨x, dx, y, l, rfl, hx, li, ⟨dy, hy⟩, kn⟩ := h
    have nd := sc_Lane___init__.nd
    refine ⟨_, (pss_cons (ps_if (pt_cmpR (op_notInSh hr.units) (pv 1) (pe_glob rfl T.m_WAYS (rel_ref _)) (by rfl)) (pss_one ps_never) pss_nil)
    (pss_cons (ps_if (pt_cmpR (op_notInSh hr.units) (pv 2) (pe_glob rfl T.m_SIGNS (rel_ref _)) (by rfl)) (pss_one ps_never) pss_nil)
    (pss_cons (ps_if (pt_not (pt_val (pe_callB call_isi (by rfl) T.z_isinstance (by decide +kernel) (pa_cons (pv 3) (pa_cons (pe_glob rfl T.m_Form (rel_ref _)) pa_nil))))) (pss_one ps_never) pss_nil)
    (pss_cons (ps_if (pt_cmpR (op_notInSh hr.units) (pv 4) (pe_glob rfl T.m_DEEDS (rel_ref _)) (by rfl)) (pss_one ps_never) pss_nil)
    (pss_cons (ps_fld (pv 0) (pv 1) rfl)
    (pss_cons (ps_fld (pv 0) (pv 2) rfl)
    (pss_cons (ps_fld (pv 0) (pv 3) rfl)
    (pss_one (ps_fld (pv 0) (pv 4) rfl))))))))), ?_⟩
    refine ⟨_, rfl, x, _, ways, rfl, T.s_WAYS _, trivial, _, rfl, ifF (by simp [isOne_mem li.w]) ?_⟩
    refine ⟨_, rfl, x, _, signs, rfl, T.s_SIGNS _, trivial, _, rfl, ifF (by simp [isOne_mem li.s]) ?_⟩
    refine ⟨_, rfl, _, _, _, _, _, rfl, .own _, T.I_Form.ty T.C_Form hy, kit_self, _, rfl, ifF rfl ?_⟩
    refine ⟨_, rfl, x, _, deeds, rfl, T.s_DEEDS _, trivial, _, rfl, ifF (by simp [isOne_mem li.d]) ?_⟩
    refine ⟨_, rfl, _, rfl, x, T.c_Lane, dx, _, rfl, hx, T.C_Lane, T.n_Lane_way, by decide, ?_⟩
    refine ⟨_, rfl, _, rfl, x, T.c_Lane, dx, _, rfl, upd_same, T.C_Lane, T.n_Lane_sign, by show 1 < 1000; decide, ?_⟩
    refine ⟨_, rfl, _, rfl, x, T.c_Lane, dx, _, rfl, upd_same, T.C_Lane, T.n_Lane_shift, by show 2 < 1000; decide, ?_⟩
    refine ⟨_, rfl, _, rfl, x, T.c_Lane, dx, _, rfl, upd_same, T.C_Lane, T.n_Lane_deed, by show 3 < 1000; decide, ?_⟩
    show Q .non _
    rw [upd_upd, upd_upd, upd_upd]
    exact kn
theorem dec_str {a b : Str} : decide (V.str a = V.str b) = decide (a = b) := decide_eq_decide.mpr ⟨fun h => by injection h, fun h => by rw [h]⟩
def spLEq (K : PySem.W.Frag) (CL CF : Addr) : Sp := fun vs H Q _ => ∃ (u v : V) (l : LD), vs = [u, v] ∧ LaneO CL CF H u l ∧
  ((∃ l', LaneO CL CF H v l' ∧ Q (.bl (decide (l = l'))) H) ∨ ∃ t, TyX K H v t ∧ PySem.W.kitOne K t (.ref CL) = some false ∧ Q (.bl false) H)
theorem ok_leq (T : Txt K mg) : FnOk P w K mg base CX0 3 T.a_Lane___eq__ T.d_Lane___eq__ ["self", "other"] (spLEq K T.c_Lane T.c_Form) := by
  have R_feq : FnR P w K mg base CX0 1 T.a_Form___eq__ (spFEq K T.c_Form) := fnR (ok_feq T) T.b_Form___eq__
  refine T.F_Lane___eq__.ok sc_Lane___eq__ (fun vs H Q E h => ?_) (fun cdv A outer s H vs Q E hr h => ?_)
  · obtain ⟨u, v, l, rfl, _⟩ := h
    rfl
  · obtain ⟨u, v, l, rfl, ⟨x, dx, y, rfl, hx, hy, li⟩, hv⟩ := h
    have nd := sc_Lane___eq__.nd
    refine ⟨_, (pss_one (ps_ret (pe_and (pe_callB call_isi (by rfl) T.z_isinstance (by decide +kernel) (pa_cons (pv 1) (pa_cons (pe_glob rfl T.m_Lane (rel_ref _)) pa_nil))) (pe_and (pe_cmpR op_eq (pe_fld (pv 0) rfl) (pe_fld (pv 1) rfl) (nomark _)) (pe_and (pe_cmpR op_eq (pe_fld (pv 0) rfl) (pe_fld (pv 1) rfl) (nomark _)) (pe_and (pe_cmpR (op_eqO T.O_Form R_feq (hr.mono (by decide)) pass0) (pe_fld (pv 0) rfl) (pe_fld (pv 1) rfl) (nomark _)) (pe_one (pe_cmpR op_eq (pe_fld (pv 0) rfl) (pe_fld (pv 1) rfl) (nomark _))))))))), ?_⟩
    rcases hv with ⟨l', ⟨x', dx', y', rfl, hx', hy', li'⟩, k⟩ | ⟨t, ty, kt, k⟩
    · refine ⟨_, rfl, _, _, _, _, _, rfl, .own _, T.I_Lane.ty T.C_Lane hx', kit_self, _, rfl, ifT rfl ?_⟩
      have no : l ≠ l' → Q (.bl false) H := fun n => by
        rw [decide_eq_false n] at k
        exact k
      refine ⟨_, rfl, x, _, dx, _, _, rfl, hx, T.C_Lane, T.n_Lane_way, rfl, _, rfl, x', _, dx', _, _, rfl, hx', T.C_Lane, T.n_Lane_way, rfl, rfl, _, rfl, ?_⟩
      rw [dec_str]
      refine ifD (fun e0 => ?_) (fun e0 => no fun z => e0 (by rw [z]))
      refine ⟨_, rfl, x, _, dx, _, _, rfl, hx, T.C_Lane, T.n_Lane_sign, rfl, _, rfl, x', _, dx', _, _, rfl, hx', T.C_Lane, T.n_Lane_sign, rfl, rfl, _, rfl, ?_⟩
      rw [dec_str]
      refine ifD (fun e1 => ?_) (fun e1 => no fun z => e1 (by rw [z]))
      obtain ⟨dz, hz⟩ := id hy
      obtain ⟨dz', hz'⟩ := id hy'
      refine ⟨_, rfl, x, _, dx, _, _, rfl, hx, T.C_Lane, T.n_Lane_shift, rfl, _, rfl, x', _, dx', _, _, rfl, hx', T.C_Lane, T.n_Lane_shift, rfl, y, dz, _, _, rfl, hz, T.I_Form.ty T.C_Form hz', notFirst_self, y, _, _, _, _, rfl, hy, .inl ⟨y', _, _, _, rfl, hy', _, rfl, ifD (fun e2 => ?_) (fun e2 => no fun z => e2 (by rw [z]; exact ⟨rfl, rfl, rfl⟩))⟩⟩
      refine ⟨_, rfl, x, _, dx, _, _, rfl, hx, T.C_Lane, T.n_Lane_deed, rfl, _, rfl, x', _, dx', _, _, rfl, hx', T.C_Lane, T.n_Lane_deed, rfl, rfl, ?_⟩
      have e : decide (V.str l.d = V.str l'.d) = decide (l = l') := by
        rw [dec_str]
        refine decide_eq_decide.mpr ⟨fun e3 => ?_, fun z => by rw [z]⟩
        obtain ⟨a, b, c⟩ := e2
        cases l
        cases l'
        simp only at e0 e1 e3 a b c
        subst e0 e1 e3 a b c
        rfl
      show Q (.bl (decide (V.str l.d = V.str l'.d))) H
      rw [e]
      exact k
    · exact ⟨_, rfl, _, _, _, _, _, rfl, .own _, ty, kt, _, rfl, ifF rfl k⟩
/-! texts -/
def laneText (l : LD) : Str := Txt.join blank [l.w, l.s, formText l.t l.q l.c, l.d]
theorem lane_eq (l : LD) : laneText l = l.w ++ (blank ++ (l.s ++ (blank ++ (formText l.t l.q l.c ++ (blank ++ l.d))))) := by
  have e : laneText l = Str.join blank [l.w, l.s, formText l.t l.q l.c, l.d] := StrLaws.glued_eq_join _ _
  rw [e]
  show l.w ++ blank ++ (l.s ++ blank ++ (formText l.t l.q l.c ++ blank ++ l.d)) = _
  simp only [Str.append_assoc]
theorem form_len {t q c : Int} (r : FormR t q c) : (formText t q c).length ≤ 70 := by
  have t1 := r.t1
  have q1 := r.q1
  have c1 := r.c1
  have c2 := r.c2
  have mt : Mid t := by unfold Mid; omega
  have mq : Mid q := by unfold Mid; omega
  have mc : Mid c := by unfold Mid; omega
  have b1 := upper_len mt mq
  have b2 := nS_mid mc
  have w1 : (Str.ofString "(").length = 1 := by decide
  have w2 : (Str.ofString ")/").length = 2 := by decide
  unfold formText
  split
  · omega
  · simp only [Str.length_append]
    omega
theorem small_word {y : Str} (h : y ∈ ways ∨ y ∈ signs ∨ y ∈ deeds) : y.length ≤ 4 := by
  unfold ways signs deeds at h
  simp only [List.mem_cons, List.not_mem_nil, or_false] at h
  rcases h with (h | h) | (h | h) | (h | h) <;> (subst h; decide)
theorem lane_len {l : LD} (i : LI l) : (laneText l).length ≤ 100 := by
  have a := form_len i.r
  have b := small_word (.inl i.w)
  have c := small_word (.inr (.inl i.s))
  have d := small_word (.inr (.inr i.d))
  have e : blank.length = 1 := by decide
  rw [lane_eq]
  simp only [Str.length_append]
  omega
def spLStr (CL CF : Addr) : Sp := fun vs H Q _ => ∃ (u : V) (l : LD), vs = [u] ∧ LaneO CL CF H u l ∧ Q (.str (laneText l)) H
theorem ok_lstr (T : Txt K mg) : FnOk P w K mg base CX0 5 T.a_Lane___str__ T.d_Lane___str__ ["self"] (spLStr T.c_Lane T.c_Form) := by
  have R_fmt : FnR P w K mg base CX0 3 T.a_Form___str__ (spFStr T.c_Form) := fnR (ok_fstr T) T.b_Form___str__
  refine T.F_Lane___str__.ok sc_Lane___str__ (fun vs H Q E h => ?_) (fun cdv A outer s H vs Q E hr h => ?_)
  · obtain ⟨u, l, rfl, _⟩ := h
    rfl
  · obtain ⟨u, l, rfl, ⟨x, dx, y, rfl, hx, hy, li⟩, k⟩ := h
    have nd := sc_Lane___str__.nd
    refine ⟨_, (pss_one (ps_ret (pe_joined (.cons (pe_fmt (pe_fld (pv 0) rfl)) (.cons pe_str (.cons (pe_fmt (pe_fld (pv 0) rfl)) (.cons pe_str (.cons (pe_fmtO (pe_fld (pv 0) rfl) T.F_Form T.M_Form___str__ R_fmt (hr.mono (by decide)) pass0) (.cons pe_str (.cons (pe_fmt (pe_fld (pv 0) rfl)) .nil)))))))))), ?_⟩
    have a := form_len li.r
    have b := small_word (.inl li.w)
    have c := small_word (.inr (.inl li.s))
    have d := small_word (.inr (.inr li.d))
    have e : blank.length = 1 := by decide
    have e9 := sizeLine_eq
    have e8 : (Str.ofString " ").length = 1 := e
    have w0 : Str.empty.length = 0 := rfl
    obtain ⟨dz, hz⟩ := id hy
    have r := li.r
    have t1 := r.t1
    have q1 := r.q1
    have c1 := r.c1
    have c2 := r.c2
    refine ret_go ⟨_, rfl, x, _, dx, _, _, rfl, hx, T.C_Lane, T.n_Lane_way, rfl, .inl ⟨_, rfl, by omega, _, rfl, by simp only [Str.length_append]; omega, ?_⟩⟩
    refine ⟨_, rfl, by simp only [Str.length_append]; omega, ?_⟩
    refine ⟨_, rfl, x, _, dx, _, _, rfl, hx, T.C_Lane, T.n_Lane_sign, rfl, .inl ⟨_, rfl, by omega, _, rfl, by simp only [Str.length_append]; omega, ?_⟩⟩
    refine ⟨_, rfl, by simp only [Str.length_append]; omega, ?_⟩
    refine ⟨_, rfl, x, _, dx, _, _, rfl, hx, T.C_Lane, T.n_Lane_shift, rfl, y, dz, _, rfl, hz, y, _, _, _, rfl, hy, by unfold Mid; omega, by unfold Mid; omega, c1, by unfold Mid; omega, _, rfl, _, rfl, by simp only [Str.length_append]; omega, ?_⟩
    refine ⟨_, rfl, by simp only [Str.length_append]; omega, ?_⟩
    refine ⟨_, rfl, x, _, dx, _, _, rfl, hx, T.C_Lane, T.n_Lane_deed, rfl, .inl ⟨_, rfl, by omega, _, rfl, by simp only [Str.length_append]; omega, ?_⟩⟩
    show Q (.str (Str.empty ++ l.w ++ blank ++ l.s ++ blank ++ formText l.t l.q l.c ++ blank ++ l.d)) H
    rw [lane_eq] at k
    simp only [Str.append_assoc, Str.empty_append]
    exact k
theorem un65 {k : Nat} {A : Around} (r : Room k A) : A.units + 65 < cLine := by
  have := r.un
  omega
theorem str_eqv {a b : Str} : PyData.eqv (.str a) (.str b) = decide (a = b) := by
  show (a == b) = _
  rw [Bool.eq_iff_iff]
  simp
theorem two_eqv {a b c d : Str} : PyData.eqv (.tuple [.str a, .str b]) (.tuple [.str c, .str d]) = decide (a = c ∧ b = d) := by
  show (PyData.eqv (.str a) (.str c) && (PyData.eqv (.str b) (.str d) && true)) = _
  rw [str_eqv, str_eqv, Bool.and_true, Bool.eq_iff_iff]
  simp
def lFol (l : LD) : Bool := decide ((l.w = Str.ofString "up" ∧ l.s = Str.ofString "-") ∨ (l.w = Str.ofString "down" ∧ l.s = Str.ofString "+"))
theorem fol_any {a b : Str} : ([PyData.tuple [.str (Str.ofString "up"), .str (Str.ofString "-")], .tuple [.str (Str.ofString "down"), .str (Str.ofString "+")]].any fun z => z.eqv (.tuple [.str a, .str b])) = decide ((a = Str.ofString "up" ∧ b = Str.ofString "-") ∨ (a = Str.ofString "down" ∧ b = Str.ofString "+")) := by
  show ((PyData.eqv (.tuple [.str (Str.ofString "up"), .str (Str.ofString "-")]) (.tuple [.str a, .str b])) || ((PyData.eqv (.tuple [.str (Str.ofString "down"), .str (Str.ofString "+")]) (.tuple [.str a, .str b])) || false)) = _
  rw [two_eqv, two_eqv, Bool.or_false, Bool.eq_iff_iff]
  simp only [Bool.or_eq_true, decide_eq_true_eq]
  constructor
  · rintro (⟨h1, h2⟩ | ⟨h1, h2⟩)
    · exact .inl ⟨h1.symm, h2.symm⟩
    · exact .inr ⟨h1.symm, h2.symm⟩
  · rintro (⟨h1, h2⟩ | ⟨h1, h2⟩)
    · exact .inl ⟨h1.symm, h2.symm⟩
    · exact .inr ⟨h1.symm, h2.symm⟩
theorem word_ok {y : Str} (h : y ∈ ways ∨ y ∈ signs ∨ y ∈ deeds) : PyData.canLay0 (.str y) = true := by
  unfold ways signs deeds at h
  simp only [List.mem_cons, List.not_mem_nil, or_false] at h
  rcases h with (h | h) | (h | h) | (h | h) <;> (subst h; decide +kernel)
theorem two_ok {a b : Str} (ha : PyData.canLay0 (.str a) = true) (hb : PyData.canLay0 (.str b) = true) : okD 1 (.tuple [.str a, .str b]) := okD.tuple fun d hd => by
  simp only [List.mem_cons, List.not_mem_nil, or_false] at hd
  rcases hd with rfl | rfl
  · exact ⟨ha, Nat.zero_le _⟩
  · exact ⟨hb, Nat.zero_le _⟩
theorem fols_ok : okD 2 (.tuple [PyData.tuple [.str (Str.ofString "up"), .str (Str.ofString "-")], .tuple [.str (Str.ofString "down"), .str (Str.ofString "+")]]) := okD.tuple fun d hd => by
  simp only [List.mem_cons, List.not_mem_nil, or_false] at hd
  rcases hd with rfl | rfl
  · exact two_ok (by decide +kernel) (by decide +kernel)
  · exact two_ok (by decide +kernel) (by decide +kernel)

end
end K55
namespace K55
open PySem PySem.Spec PyProof.Rows L2 Rs
local macro_rules | `(tactic| walk_at "om") => `(tactic| first | omega | (dsimp only; omega))
local macro_rules | `(tactic| walk_at "side") => `(tactic| first | omega | (dsimp only; omega) | decide | (unfold CMul; omega) | (unfold CDiv; omega) | (unfold CPow; omega) | exact wide_div (b := 64) (by omega) (by omega) (by decide) (by decide))
local macro_rules | `(tactic| walk_at "hp") => `(tactic| first | assumption | exact upd_same)
local macro_rules | `(tactic| walk_at "sq") => `(tactic| first | assumption | exact SqL.of (by assumption) | exact SqL.of upd_same)
local macro_rules | `(tactic| walk_at "st") => `(tactic| first
  | refine ⟨_, rfl, ?_⟩
  | (refine ⟨_, _, rfl, rfl, And.intro ?side ?_⟩; (case side => walk_at "side"))
  | refine ⟨_, _, rfl, rfl, ?_⟩
  | (refine' ⟨_, _, _, _, rfl, rfl, SqL.of ?hp, ?atx, ?_⟩; (case hp => walk_at "hp"); (case atx => exact rfl))
  | (refine' ⟨_, _, _, _, rfl, rfl, ?hp, ?atx, ?_⟩; (case hp => walk_at "hp"); (case atx => exact rfl))
  | (refine' ⟨_, _, rfl, Or.inl ?sq, ?_⟩; (case sq => walk_at "sq"))
  | refine Or.inl ⟨_, rfl, ?_⟩
  | refine Or.inr ⟨_, rfl, ?_⟩)
local macro_rules | `(tactic| walk_at "evd") => `(tactic| first
  | exact evd_int
  | exact evd_str
  | exact evd_non
  | exact evd_bl
  | exact evd_nil
  | (refine evd_cons ?_ (fun _ => ?_) <;> walk_at "evd")
  | (refine evd_tup ?_ (Nat.le_of_ble_eq_true rfl); walk_at "evd"))

section
variable {P : Program} {w : World} {K : PySem.W.Frag} {mg : Str → Option Value} {base : Heap}
theorem sla_any {K : PySem.W.Frag} {H : Hp} {a : Addr} {xs : List V} {lo hi : Option Int} {Q : VK} (h : SqT K H a xs) (q : ∀ t H', Same H H' → SqT K H' t (cutV xs lo hi) → Q (.ref t) H') : rSlA K (.ref a) lo hi H Q := by
  refine ⟨a, xs, rfl, h, fun e => ?_, fun _ p np => q p _ (same_new np) (SqT.of upd_same)⟩
  have e2 : cutV xs lo hi = xs := by
    unfold cutV
    rw [e.1, e.2, List.drop_zero, Nat.sub_zero, List.take_length]
  exact q a H (Same.refl _) (by rw [e2]; exact h)
/-! the law's own lanes -/
def spLaneText (K : PySem.W.Frag) : Sp := fun vs H Q _ => ∃ (v : V) (l : LD), vs = [v] ∧ LaneV H v l ∧ ∀ H', Same H H' → Q (.str (laneText l)) H'
def spLaneOf (CL CF : Addr) : Sp := fun vs H Q _ => ∃ (v : V) (l : LD), vs = [v] ∧ LaneV H v l ∧ ∀ u H', Same H H' → LaneO CL CF H' u l → Q u H'

/-- two lists, item by item -/
inductive AllR {α β : Type} (R : α → β → Prop) : List α → List β → Prop where
  | nil : AllR R [] []
  | cons {a : α} {b : β} {as : List α} {bs : List β} : R a b → AllR R as bs → AllR R (a :: as) (b :: bs)
theorem AllR.length {α β : Type} {R : α → β → Prop} {as : List α} {bs : List β} (h : AllR R as bs) : as.length = bs.length := by
  induction h with
  | nil => rfl
  | cons _ _ ih => rw [List.length_cons, List.length_cons, ih]
theorem AllR.mono {α β : Type} {R S : α → β → Prop} {as : List α} {bs : List β} (h : AllR R as bs) (k : ∀ a b, R a b → S a b) : AllR S as bs := by
  induction h with
  | nil => exact .nil
  | cons z _ ih => exact .cons (k _ _ z) ih
theorem AllR.snoc {α β : Type} {R : α → β → Prop} {as : List α} {bs : List β} {a : α} {b : β} (h : AllR R as bs) (z : R a b) : AllR R (as ++ [a]) (bs ++ [b]) := by
  induction h with
  | nil => exact .cons z .nil
  | cons y _ ih => exact .cons y ih
theorem AllR.get {α β : Type} {R : α → β → Prop} {as : List α} {bs : List β} (h : AllR R as bs) : ∀ {i : Nat} {a : α}, as[i]? = some a → ∃ b, bs[i]? = some b ∧ R a b := by
  induction h with
  | nil => intro i a e; cases e
  | cons z _ ih =>
    intro i a e
    cases i with
    | zero => cases e; exact ⟨_, rfl, z⟩
    | succ i => exact ih e
theorem AllR.left {α β : Type} {R : α → β → Prop} {as : List α} {bs : List β} (h : AllR R as bs) {a : α} (m : a ∈ as) : ∃ b, b ∈ bs ∧ R a b := by
  obtain ⟨i, e⟩ := List.getElem?_of_mem m
  obtain ⟨b, eb, r⟩ := h.get e
  exact ⟨b, List.mem_of_getElem? eb, r⟩
/-- a drawn block's data -/
structure BD where
  t : Int
  q : Int
  c : Int
  ls : List LD
  deriving DecidableEq
structure FB (t q c : Int) : Prop where
  t1 : -1000 ≤ t
  t2 : t ≤ 1000
  q1 : -1000 ≤ q
  q2 : q ≤ 1000
  c1 : 1 ≤ c
  c2 : c ≤ 9
theorem FB.r {t q c : Int} (h : FB t q c) : FormR t q c := by
  have := h.t1
  have := h.t2
  have := h.q1
  have := h.q2
  have := h.c1
  have := h.c2
  exact ⟨by omega, by omega, by omega, by omega⟩
structure BI (d : BD) : Prop where
  r : FB d.t d.q d.c
  l0 : 0 < d.ls.length
  l1 : d.ls.length ≤ 60
  li : ∀ l ∈ d.ls, LI l
def FormV (H : Hp) (v : V) (t q c : Int) : Prop := ∃ p, v = .ref p ∧ H p = some (.tup [.int t, .int q, .int c]) ∧ FB t q c
def FormW (H : Hp) (v : V) : Prop := ∃ t q c, FormV H v t q c
theorem FormW.fz {H H' : Hp} {v : V} (h : FormW H v) (k : Fz H H') : FormW H' v := by
  obtain ⟨t, q, c, p, e, hp, r⟩ := h
  exact ⟨t, q, c, p, e, k _ _ trivial hp, r⟩
/-- a drawn block; its list of lanes does not stand at b -/
def BlockV (b : Addr) (H : Hp) (v : V) (d : BD) : Prop := ∃ p f L vs, v = .ref p ∧ H p = some (.tup [.ref f, .ref L]) ∧ H f = some (.tup [.int d.t, .int d.q, .int d.c]) ∧ L ≠ b ∧ H L = some (.lst vs) ∧ AllR (LaneV H) vs d.ls ∧ BI d
theorem LaneV.same {H H' : Hp} {v : V} {l : LD} (h : LaneV H v l) (k : Same H H') : LaneV H' v l := h.fz (Fz.of_same k)
theorem BlockV.same {b : Addr} {H H' : Hp} {v : V} {d : BD} (h : BlockV b H v d) (k : Same H H') : BlockV b H' v d := by
  obtain ⟨p, f, L, vs, e, hp, hf, ne, hL, a, i⟩ := h
  exact ⟨p, f, L, vs, e, k _ _ hp, k _ _ hf, ne, k _ _ hL, a.mono fun v l h => h.same k, i⟩
theorem BlockV.but {b : Addr} {H H' : Hp} {v : V} {d : BD} (h : BlockV b H v d) (B : Box H b) (k : But b H H') : BlockV b H' v d := by
  obtain ⟨p, f, L, vs, e, hp, hf, ne, hL, a, i⟩ := h
  have z := B.fz k
  exact ⟨p, f, L, vs, e, z _ _ trivial hp, z _ _ trivial hf, ne, k _ _ ne hL, a.mono fun v l h => h.fz z, i⟩
/-- t gives a value that R tells, and only makes objects -/
def EvP (te : TE) (σ : L2.St) (H : Hp) (R : Hp → V → Prop) : Prop := ∀ Q : VK, (∀ v H', Same H H' → R H' v → Q v H') → te σ H Q
structure EvI (te : TE) (σ : L2.St) (i : Int) : Prop where
  go : ∀ (H : Hp) (Q : VK), Q (.int i) H → te σ H Q
theorem evi_c {i : Int} {σ : L2.St} : EvI (tC (.int i)) σ i := ⟨fun _ _ q => q⟩
theorem evi_m {i j : Int} {σ : L2.St} : EvI (tOp (rI0 fun i j => .int (i - j)) (tC (.int i)) (tC (.int j))) σ (i - j) := ⟨fun _ _ q => ⟨_, _, rfl, rfl, q⟩⟩
theorem evp_form {a b c : TE} {t q k : Int} {σ : L2.St} {H : Hp} (ha : EvI a σ t) (hb : EvI b σ q) (hc : EvI c σ k) (h : -1000 ≤ t ∧ t ≤ 1000 ∧ -1000 ≤ q ∧ q ≤ 1000 ∧ 1 ≤ k ∧ k ≤ 9) : EvP (tTup (tCons a (tCons b (tCons c tNil)))) σ H FormW := fun Q g =>
  ha.go _ _ (hb.go _ _ (hc.go _ _ ⟨szL (Nat.le_of_ble_eq_true rfl), fun p np => g _ _ (same_new np) ⟨t, q, k, p, rfl, upd_same, ⟨h.1, h.2.1, h.2.2.1, h.2.2.2.1, h.2.2.2.2.1, h.2.2.2.2.2⟩⟩⟩))
theorem ev_cons {te : TE} {ta : TA} {σ : L2.St} {H : Hp} {Q : List V → Hp → Prop} {R : Hp → V → Prop} (h : EvP te σ H R) (q : ∀ v H1, Same H H1 → R H1 v → ta σ H1 (fun vs H2 => Q (v :: vs) H2)) : tCons te ta σ H Q := h _ fun v H1 s r => q v H1 s r
theorem ev_lst {ta : TA} {Q : VK} {σ : L2.St} {H : Hp} (h : ta σ H (fun vs H1 => vs.length ≤ sizeLine ∧ ∀ l, H1 l = none → Q (.ref l) (upd H1 l (.lst vs)))) : tLst ta σ H Q := h
theorem ev_arg {te : TE} {Q : List V → Hp → Prop} {σ : L2.St} {H : Hp} (h : te σ H (fun v H1 => Q [v] H1)) : tCons te tNil σ H Q := h
/-- its list of lanes does not stand at D -/
def Off (D : Addr) (H : Hp) (v : V) : Prop := ∃ p f L, v = .ref p ∧ H p = some (.tup [f, .ref L]) ∧ L ≠ D
theorem Off.fz {D : Addr} {H H' : Hp} {v : V} (h : Off D H v) (k : Fz H H') : Off D H' v := by
  obtain ⟨p, f, L, e, hp, n⟩ := h
  exact ⟨p, f, L, e, k _ _ trivial hp, n⟩
theorem BlockV.upd {b D : Addr} {H : Hp} {v : V} {d : BD} {xs : List V} {o : HO} (h : BlockV b H v d) (n : Off D H v) (e : H D = some (.lst xs)) : BlockV b (upd H D o) v d := by
  obtain ⟨p, f, L, vs, rfl, hp, hf, ne, hL, a, i⟩ := h
  obtain ⟨p', f', L', e', hp', n⟩ := n
  cases e'
  rw [hp] at hp'
  have e2 := Option.some.inj hp'
  injection e2 with e2
  injection e2 with _ e2
  injection e2 with e2 _
  injection e2 with e2
  subst e2
  have z : Fz H (L2.upd H D o) := Fz.lst e
  exact ⟨p, f, L, vs, rfl, z _ _ trivial hp, z _ _ trivial hf, ne, by rw [upd_ne n]; exact hL, a.mono fun v l h => h.fz z, i⟩
def spBlock : Sp := fun vs H Q _ => ∃ (b : Addr) (many far : Int), vs = [.ref b, .int many, .int far] ∧ Box H b ∧ 0 < many ∧ many ≤ 50 ∧ 0 < far ∧ far ≤ 1000 ∧
  ∀ (v : V) (d : BD) (H' : Hp), d.ls.length ≤ 50 → BlockV b H' v d → (∀ D o, H D = some o → Off D H' v) → Box H' b → But b H H' → Q v H'

theorem tyx_same {K : PySem.W.Frag} {H H' : Hp} {v : V} {t : Value} (s : Same H H') (h : TyX K H v t) : TyX K H' v t := by
  cases h with
  | base b =>
    cases b with
    | non => exact .base .non
    | bl x => exact .base (.bl x)
    | int x => exact .base (.int x)
    | str x => exact .base (.str x)
    | flt x => exact .base (.flt x)
    | lst e => exact .base (.lst (s _ _ e))
    | frz e => exact .base (.frz (s _ _ e))
    | tup e => exact .base (.tup (s _ _ e))
    | dK e => exact .base (.dK (s _ _ e))
    | dT e => exact .base (.dT (s _ _ e))
    | ins e c ha hn ht hm => exact .base (.ins (s _ _ e) c ha hn ht hm)
  | byt x => exact .byt x
  | set e => exact .set (s _ _ e)
  | kList e c => exact .kList e c
  | kTuple e c => exact .kTuple e c
  | kDict e c => exact .kDict e c
  | fTuple e => exact .fTuple (s _ _ e)
  | fDict e => exact .fDict (s _ _ e)
/-- whether a value is a list or a tuple -/
def spSeq (K : PySem.W.Frag) : Sp := fun vs H Q _ => ∃ (v : V) (t : Value) (r : Bool), vs = [v] ∧ TyX K H v t ∧ PySem.W.kitAny K t [.type "list", .type "tuple"] = some r ∧ ∀ H', Same H H' → Q (.bl r) H'
theorem ok_seq (T : Txt K mg) : FnOk P w K mg base CX0 1 T.a_is_sequence T.d_is_sequence ["value"] (spSeq K) := by
  refine T.F_is_sequence.ok sc_is_sequence (fun vs H Q E h => ?_) (fun cdv A outer s H vs Q E hr h => ?_)
  · obtain ⟨v, t, r, rfl, _⟩ := h
    rfl
  · obtain ⟨v, t, r, rfl, ty, kt, k⟩ := h
    have nd := sc_is_sequence.nd
    refine ⟨_, (pss_one (ps_ret (pe_callB call_isiT (by rfl) T.z_isinstance (by decide +kernel) (pa_cons (pv 0) (pa_cons (pe_tup (pa_cons (pe_bltn (v := .ty "list") (u := .type "list") (by rfl) T.z_list (by decide +kernel) (by exact rfl)) (pa_cons (pe_bltn (v := .ty "tuple") (u := .type "tuple") (by rfl) T.z_tuple (by decide +kernel) (by exact rfl)) pa_nil))) pa_nil))))), ?_⟩
    refine ⟨_, rfl, szL (Nat.le_of_ble_eq_true rfl), fun p np => ?_⟩
    have z : TyX K (upd H p (.tup [.ty "list", .ty "tuple"])) v t := tyx_same (same_new np) ty
    exact ⟨v, p, _, t, _, r, rfl, upd_same, .cons (.ty _) (.cons (.ty _) .nil), z, kt, k _ (same_new np)⟩
theorem kit_seq_list {K : PySem.W.Frag} : PySem.W.kitAny K (.type "list") [.type "list", .type "tuple"] = some true := by
  unfold PySem.W.kitAny
  rw [show PySem.W.kitOne K (.type "list") (.type "list") = some true from by simp [PySem.W.kitOne]]
theorem kit_seq_tup {K : PySem.W.Frag} : PySem.W.kitAny K (.type "tuple") [.type "list", .type "tuple"] = some true := by
  unfold PySem.W.kitAny
  rw [show PySem.W.kitOne K (.type "tuple") (.type "list") = some false from kit_ty (by decide +kernel)]
  unfold PySem.W.kitAny
  rw [show PySem.W.kitOne K (.type "tuple") (.type "tuple") = some true from by simp [PySem.W.kitOne]]
theorem call_isiC {X : Cx} {K : PySem.W.Frag} (e : X.K = K) : CallR X (.builtin "isinstance") (rIsi K) := by
  subst e
  exact call_isi
/-- a list or a tuple, walked -/
def iSeqA (K : PySem.W.Frag) (tl : TE) : TI := fun σ H R => tl σ H fun v H1 => ∃ a, v = .ref a ∧ ((∃ xs, SqL K H1 a xs ∧ R (Itl K a) H1) ∨ (∃ xs, SqT K H1 a xs ∧ R (Itt K a) H1))
theorem pi_seqA {X : Cx} {tg l : Expr} {tl : TE} (hl : PE X l tl) : PI X tg l (iSeqA X.K tl) := by
  refine ⟨fun pins s σ H R I h => thn (hl.run pins s σ H _ I h) fun v u res => ?_⟩
  obtain ⟨x, G, J, rx, a, ex, way⟩ := res
  subst ex
  cases rx
  have new : ∀ c ∈ [u.heap.objs.size], FpOk X pins G c := fun c hc => by
    obtain rfl : c = u.heap.objs.size := by simpa using hc
    exact J.fpOk (Nat.le_refl _) (J.hok.fresh (Nat.le_refl _))
  rcases way with ⟨xs, hq, q⟩ | ⟨xs, hq, q⟩
  · obtain ⟨its, rv, p, _⟩ := J.list hq
    refine wpAny_pyIter_list p.isList ⟨u.heap.objs.size, [u.heap.objs.size], _, _, G, rfl, ?_, turn_list a _, ⟨_, Heap.get?_push_size _ rfl, rfl, rfl⟩, new, q⟩
    exact J.kept (t' := u.toks) fun c r z => Heap.get?_push_of_some _ z
  · obtain ⟨its, rv, p, _⟩ := J.tuple hq
    refine wpAny_pyIter_tuple (show u.heap.IsTuple a its.toArray from p) ⟨u.heap.objs.size, [u.heap.objs.size], _, _, G, rfl, ?_, turn_tuple a _, ⟨_, Heap.get?_push_size _ rfl, rfl, rfl⟩, new, q⟩
    exact J.kept (t' := u.toks) fun c r z => Heap.get?_push_of_some _ z

end
end K55
namespace K55
open PySem PySem.Spec PyProof.Rows L2 Rs
local macro_rules | `(tactic| walk_at "om") => `(tactic| first | omega | (dsimp only; omega))
local macro_rules | `(tactic| walk_at "side") => `(tactic| first | omega | (dsimp only; omega) | decide | (unfold CMul; omega) | (unfold CDiv; omega) | (unfold CPow; omega) | exact wide_div (b := 64) (by omega) (by omega) (by decide) (by decide))
local macro_rules | `(tactic| walk_at "hp") => `(tactic| first | assumption | exact upd_same)
local macro_rules | `(tactic| walk_at "sq") => `(tactic| first | assumption | exact SqL.of (by assumption) | exact SqL.of upd_same)
local macro_rules | `(tactic| walk_at "st") => `(tactic| first
  | refine ⟨_, rfl, ?_⟩
  | (refine ⟨_, _, rfl, rfl, And.intro ?side ?_⟩; (case side => walk_at "side"))
  | refine ⟨_, _, rfl, rfl, ?_⟩
  | (refine' ⟨_, _, _, _, rfl, rfl, SqL.of ?hp, ?atx, ?_⟩; (case hp => walk_at "hp"); (case atx => exact rfl))
  | (refine' ⟨_, _, _, _, rfl, rfl, ?hp, ?atx, ?_⟩; (case hp => walk_at "hp"); (case atx => exact rfl))
  | (refine' ⟨_, _, rfl, Or.inl ?sq, ?_⟩; (case sq => walk_at "sq"))
  | refine Or.inl ⟨_, rfl, ?_⟩
  | refine Or.inr ⟨_, rfl, ?_⟩)
local macro_rules | `(tactic| walk_at "evd") => `(tactic| first
  | exact evd_int
  | exact evd_str
  | exact evd_non
  | exact evd_bl
  | exact evd_nil
  | (refine evd_cons ?_ (fun _ => ?_) <;> walk_at "evd")
  | (refine evd_tup ?_ (Nat.le_of_ble_eq_true rfl); walk_at "evd"))

section
variable {P : Program} {w : World} {K : PySem.W.Frag} {mg : Str → Option Value} {base : Heap}
def LaneI (CL : Addr) (H : Hp) (v : V) : Prop := ∃ z dz gs, v = .ref z ∧ H z = some (.ins CL dz gs)
theorem upd_mid2 {H : Hp} {x tp : Addr} {o1 o2 o3 : HO} (n : tp ≠ x) : upd (upd (upd H x o1) tp o2) x o3 = upd (upd H tp o2) x o3 := by
  funext a
  by_cases ha : a = x
  · subst ha; rw [upd_same, upd_same]
  · rw [upd_ne ha, upd_ne ha]
    by_cases hb : a = tp
    · subst hb; rw [upd_same, upd_same]
    · rw [upd_ne hb, upd_ne hb, upd_ne ha]
def fldB (y tp : Addr) : List (Str × V) := putF "lanes" (.ref tp) (putF "rounds" (.ref y) [])
def spBlockG (K : PySem.W.Frag) (CB CF CL : Addr) : Sp := fun vs H Q _ => ∃ (x dx y a : Addr) (us : List V), vs = [.ref x, .ref y, .ref a] ∧ H x = some (.ins CB dx []) ∧ (∃ dy fs, H y = some (.ins CF dy fs)) ∧ (H a = some (.lst us) ∨ H a = some (.tup us)) ∧ 0 < us.length ∧ us.length ≤ 101 ∧ (∀ u ∈ us, LaneI CL H u) ∧
  ∀ H' tp, Same H H' → H' tp = some (.tup us) → Q .non (upd H' x (.ins CB dx (fldB y tp)))
theorem ok_blockG (T : Txt K mg) : FnOk P w K mg base CX0 2 T.a_Block___init__ T.d_Block___init__ ["self", "rounds", "lanes"] (spBlockG K T.c_Block T.c_Form T.c_Lane) := by
  have G_is_sequence : FnOk P w K mg base CX0 1 T.a_is_sequence T.d_is_sequence ["value"] (spSeq K) := ok_seq T
  refine T.F_Block___init__.ok sc_Block___init__ (fun vs H Q E h => ?_) (fun cdv A outer s H vs Q E hr h => ?_)
  · obtain ⟨x, dx, y, a, us, rfl, _⟩ := h
    rfl
  · obtain ⟨x, dx, y, a, us, rfl, hx, ⟨dy, fs, hy⟩, hseq, l0, l1, hls, k⟩ := h
    have nd := sc_Block___init__.nd
    refine ⟨_, (pss_cons (ps_if (pt_not (pt_val (pe_callB call_isi (by rfl) T.z_isinstance (by decide +kernel) (pa_cons (pv 1) (pa_cons (pe_glob rfl T.m_Form (rel_ref _)) pa_nil))))) (pss_one ps_never) pss_nil)
    (pss_cons (ps_if (PW.pt (pw_or (pt_not (pt_val (pe_call G_is_sequence (hr.mono (by first | decide | omega)) (by rfl) T.m_is_sequence T.k_is_sequence T.b_is_sequence .nil pass0 (pa_cons (pv 2) pa_nil)))) (pw_or1 (pt_cmpR op_eq (pe_callB call_len_seq (by rfl) T.z_len (by decide +kernel) (pa_cons (pv 2) pa_nil)) pe_int (nomark _))))) (pss_one ps_never) pss_nil)
    (pss_cons (ps_if (pt_not (pt_val (pe_callB (cr_all rfl) (by rfl) T.z_all (by decide +kernel) (pa_cons (pe_lc (own := [("lane", 3)]) (g := (gName 3)) (by rfl) nd (pi_seqA (pv 2)) (blkOk_by (N := ["self", "rounds", "lanes", "lane"]) (sc := defScope s_Block___init__) (own := [("lane", 3)]) (by decide +kernel)) (fun _ _ _ _ _ => by exact (pg_name (i := 3) nd rfl (Or.inl rfl))) (fun _ _ _ _ _ => by exact pts_nil) (fun _ _ _ _ _ => by exact (pe_callB (call_isiC (K := K) rfl) (by rfl) T.z_isinstance (by decide +kernel) (pa_cons (pv 3) (pa_cons (pe_glob rfl T.m_Lane (rel_ref _)) pa_nil))))) pa_nil)))) (pss_one ps_never) pss_nil)
    (pss_cons (ps_fld (pv 0) (pv 1) rfl)
    (pss_one (ps_fld (pv 0) (pe_callTy call_tuple_of (by rfl) T.z_tuple (by decide +kernel) (pa_cons (pv 2) pa_nil)) rfl)))))), ?_⟩
    refine ⟨_, rfl, _, _, _, _, _, rfl, .own _, T.I_Form.ty T.C_Form hy, kit_self, _, rfl, ifF rfl ?_⟩
    have e0 : decide (V.int (us.length : Nat) = V.int 0) = false := decide_eq_false (fun h => by injection h with h; omega)
    have nax : a ≠ x := by
      rintro rfl
      rcases hseq with h | h <;> (rw [hx] at h; cases h)
    rcases hseq with hL | hL
    · refine ⟨_, rfl, _, _, _, rfl, .base (.lst hL), kit_seq_list, fun H1 s1 => ?_⟩
      have hL1 := s1 _ _ hL
      refine ⟨_, rfl, ifF rfl ?_⟩
      refine ⟨_, rfl, _, _, rfl, .inl (SqL.of hL1), rfl, _, rfl, ifF e0 ?_⟩
      refine ⟨_, rfl, a, rfl, .inl ⟨us, SqL.of hL1, fun D hD => ?_⟩⟩
      refine lc_list (xs := us) (fun i Hc => Hc D = some (.lst ((List.replicate i true).map V.bl)) ∧ Same H1 Hc) ⟨upd_same, same_new hD⟩ (fun i Hc _ hP => SqL.of (hP.2 _ _ hL1)) (fun i y Hc hy hP => ?_) (fun Hc hP => ?_)
      · obtain ⟨hDc, sc⟩ := hP
        obtain ⟨z, dz, gs, rfl, hz⟩ := hls y (List.mem_of_getElem? hy)
        have hn := (List.getElem?_eq_some_iff.mp hy).1
        refine ⟨rfl, _, rfl, _, _, _, _, _, rfl, .own _, T.I_Lane.ty T.C_Lane (sc _ _ (s1 _ _ hz)), kit_self, ?_⟩
        exact ⟨_, hDc, szl (by rw [List.length_map, List.length_replicate]; omega), by rw [upd_same, List.replicate_succ', List.map_append]; rfl, same_lst sc hD⟩
      · obtain ⟨hDc, sc⟩ := hP
        refine ⟨D, List.replicate us.length true, rfl, SqL.of hDc, _, rfl, ifF (by simp) ?_⟩
        have sH := s1.trans sc
        refine ⟨_, rfl, _, rfl, x, T.c_Block, dx, _, rfl, sH _ _ hx, T.C_Block, T.n_Block_rounds, by decide, ?_⟩
        refine ⟨_, rfl, a, _, rfl, .inl ⟨SqL.of (by rw [upd_ne nax]; exact sH _ _ hL), fun tp ntp => ?_⟩⟩
        have ntx : tp ≠ x := by
          rintro rfl
          rw [upd_same] at ntp
          cases ntp
        refine ⟨_, rfl, x, T.c_Block, dx, _, rfl, by rw [upd_ne (Ne.symm ntx)]; exact upd_same, T.C_Block, T.n_Block_lanes, by show 1 < 1000; decide, ?_⟩
        have ntp' : Hc tp = none := by rw [upd_ne ntx] at ntp; exact ntp
        show Q .non _
        rw [upd_mid2 ntx]
        exact k _ tp (sH.trans (same_new ntp')) upd_same
    · refine ⟨_, rfl, _, _, _, rfl, .base (.tup hL), kit_seq_tup, fun H1 s1 => ?_⟩
      have hL1 := s1 _ _ hL
      refine ⟨_, rfl, ifF rfl ?_⟩
      refine ⟨_, rfl, _, _, rfl, .inr (.inl (.inl hL1)), rfl, _, rfl, ifF e0 ?_⟩
      refine ⟨_, rfl, a, rfl, .inr ⟨us, SqT.of hL1, fun D hD => ?_⟩⟩
      refine lc_tup (xs := us) (fun i Hc => Hc D = some (.lst ((List.replicate i true).map V.bl)) ∧ Same H1 Hc) ⟨upd_same, same_new hD⟩ (fun i Hc _ hP => SqT.of (hP.2 _ _ hL1)) (fun i y Hc hy hP => ?_) (fun Hc hP => ?_)
      · obtain ⟨hDc, sc⟩ := hP
        obtain ⟨z, dz, gs, rfl, hz⟩ := hls y (List.mem_of_getElem? hy)
        have hn := (List.getElem?_eq_some_iff.mp hy).1
        refine ⟨rfl, _, rfl, _, _, _, _, _, rfl, .own _, T.I_Lane.ty T.C_Lane (sc _ _ (s1 _ _ hz)), kit_self, ?_⟩
        exact ⟨_, hDc, szl (by rw [List.length_map, List.length_replicate]; omega), by rw [upd_same, List.replicate_succ', List.map_append]; rfl, same_lst sc hD⟩
      · obtain ⟨hDc, sc⟩ := hP
        refine ⟨D, List.replicate us.length true, rfl, SqL.of hDc, _, rfl, ifF (by simp) ?_⟩
        have sH := s1.trans sc
        refine ⟨_, rfl, _, rfl, x, T.c_Block, dx, _, rfl, sH _ _ hx, T.C_Block, T.n_Block_rounds, by decide, ?_⟩
        refine ⟨_, rfl, a, _, rfl, .inr ⟨SqT.of (by rw [upd_ne nax]; exact sH _ _ hL), ?_⟩⟩
        refine ⟨_, rfl, x, T.c_Block, dx, _, rfl, upd_same, T.C_Block, T.n_Block_lanes, by show 1 < 1000; decide, ?_⟩
        show Q .non _
        rw [upd_upd]
        exact k _ a sH (sH _ _ hL)

theorem fldL_eq (l : LD) (y : Addr) : fldL l y = [(Str.ofString "way", V.str l.w), (Str.ofString "sign", V.str l.s), (Str.ofString "shift", V.ref y), (Str.ofString "deed", V.str l.d)] := rfl
theorem fldB_eq (y tp : Addr) : fldB y tp = [(Str.ofString "rounds", V.ref y), (Str.ofString "lanes", V.ref tp)] := rfl
theorem fldF_inj {t q c t' q' c' : Int} (h : fldF t q c = fldF t' q' c') : t = t' ∧ q = q' ∧ c = c' := by
  have h : [(Str.ofString "times", V.int t), (Str.ofString "plus", V.int q), (Str.ofString "by", V.int c)] = [(Str.ofString "times", V.int t'), (Str.ofString "plus", V.int q'), (Str.ofString "by", V.int c')] := h
  simp only [List.cons.injEq, Prod.mk.injEq, V.int.injEq, true_and, and_true] at h
  exact h
theorem FormO.inj {C : Addr} {H : Hp} {x : Addr} {t q c t' q' c' : Int} (h : FormO C H x t q c) (h' : FormO C H x t' q' c') : t = t' ∧ q = q' ∧ c = c' := by
  obtain ⟨dx, h⟩ := h
  obtain ⟨dx', h'⟩ := h'
  rw [h] at h'
  have e := Option.some.inj h'
  injection e with _ _ e
  exact fldF_inj e
theorem LaneO.inj {CL CF : Addr} {H : Hp} {v : V} {l l' : LD} (h : LaneO CL CF H v l) (h' : LaneO CL CF H v l') : l = l' := by
  obtain ⟨x, dx, y, rfl, hx, hy, _⟩ := h
  obtain ⟨x', dx', y', e, hx', hy', _⟩ := h'
  cases e
  rw [hx] at hx'
  have e := Option.some.inj hx'
  injection e with _ _ e
  rw [fldL_eq, fldL_eq] at e
  simp only [List.cons.injEq, Prod.mk.injEq, V.str.injEq, V.ref.injEq, true_and, and_true] at e
  obtain ⟨e1, e2, e3, e4⟩ := e
  subst e3
  obtain ⟨f1, f2, f3⟩ := hy.inj hy'
  cases l
  cases l'
  simp only at e1 e2 e4 f1 f2 f3
  subst e1 e2 e4 f1 f2 f3
  rfl
theorem AllR.fn {α β : Type} {R : α → β → Prop} {as : List α} {bs cs : List β} (k : ∀ a b c, R a b → R a c → b = c) (h : AllR R as bs) : AllR R as cs → bs = cs := by
  induction h generalizing cs with
  | nil => intro h2; cases h2; rfl
  | cons z _ ih => intro h2; cases h2 with | cons z2 r2 => rw [k _ _ _ z z2, ih r2]
theorem LaneO.same {CL CF : Addr} {H H' : Hp} {v : V} {l : LD} (h : LaneO CL CF H v l) (k : Same H H') : LaneO CL CF H' v l := h.fz (Fz.of_same k)
theorem LaneO.ins {CL CF : Addr} {H : Hp} {v : V} {l : LD} (h : LaneO CL CF H v l) : LaneI CL H v := by
  obtain ⟨x, dx, y, e, hx, _⟩ := h
  exact ⟨x, dx, _, e, hx⟩
/-- whether two lanes are equal -/
def SL (CL CF : Addr) (a b : Addr) (r : Bool) (H : Hp) : Prop := ∃ l l', LaneO CL CF H (.ref a) l ∧ LaneO CL CF H (.ref b) l' ∧ r = decide (l = l')
theorem SL.mon {CL CF : Addr} (a b : Addr) (r : Bool) (H H' : Hp) (e : Ext H H') (h : SL CL CF a b r H) : SL CL CF a b r H' := by
  obtain ⟨l, l', h1, h2, h3⟩ := h
  exact ⟨l, l', h1.same e, h2.same e, h3⟩
theorem SL.ask {CL CF : Addr} (a b : Addr) (r : Bool) (H : Hp) (h : SL CL CF a b r H) : spLEq K CL CF [.ref a, .ref b] H (fun v H' => v = .bl r ∧ Ext H H') E0 := by
  obtain ⟨l, l', h1, h2, rfl⟩ := h
  exact ⟨_, _, l, rfl, h1, .inl ⟨l', h2, rfl, fun _ _ x => x⟩⟩
theorem refs {C : Addr} {S : Addr → Addr → Bool → Hp → Prop} (x y : V) (r : Bool) (H : Hp) (h : DInsB C S x y r H) : ∃ a b, x = .ref a ∧ y = .ref b ∧ (a = b → r = true) := by
  obtain ⟨a, b, _, _, _, _, e1, e2, _, _, _, e3⟩ := h
  exact ⟨a, b, e1, e2, e3⟩
theorem SL.tup {CL CF : Addr} {H : Hp} {p p' : Addr} {us us' : List V} {ls ls' : List LD} (h1 : H p = some (.tup us)) (h2 : H p' = some (.tup us')) (a1 : AllR (LaneO CL CF H) us ls) (a2 : AllR (LaneO CL CF H) us' ls') : DTupB K (DInsB CL (SL CL CF)) (.ref p) (.ref p') (decide (ls = ls')) H := by
  refine ⟨p, p', us, us', rfl, rfl, SqT.of h1, SqT.of h2, ⟨fun i => decide (ls[i]? = ls'[i]?), fun i x y ex ey => ?_, ?_⟩, fun e => ?_⟩
  · obtain ⟨l, el, hl⟩ := a1.get ex
    obtain ⟨l', el', hl'⟩ := a2.get ey
    obtain ⟨z, dz, gs, rfl, hz⟩ := hl.ins
    obtain ⟨z', dz', gs', rfl, hz'⟩ := hl'.ins
    refine ⟨z, z', dz, dz', gs, gs', rfl, rfl, hz, hz', ⟨l, l', hl, hl', ?_⟩, fun e => ?_⟩
    · simp only [el, el', Option.some.injEq]
    · subst e
      have e := hl.inj hl'
      simp only [el, el', e, decide_true]
  · rw [decide_eq_true_eq, a1.length, a2.length]
    constructor
    · intro e
      subst e
      exact ⟨rfl, fun i _ _ => by simp only [decide_true]⟩
    · rintro ⟨e, all⟩
      refine List.ext_getElem? fun i => ?_
      rcases Nat.lt_or_ge i ls.length with c | c
      · exact of_decide_eq_true (all i c (by omega))
      · rw [List.getElem?_eq_none c, List.getElem?_eq_none (by omega)]
  · subst e
    rw [h1] at h2
    have e := Option.some.inj h2
    injection e with e
    subst e
    exact decide_eq_true (AllR.fn (fun _ _ _ x y => x.inj y) a1 a2)
def BlockO (CB CL CF : Addr) (H : Hp) (v : V) (d : BD) : Prop := ∃ x dx y tp us, v = .ref x ∧ H x = some (.ins CB dx (fldB y tp)) ∧ FormO CF H y d.t d.q d.c ∧ H tp = some (.tup us) ∧ AllR (LaneO CL CF H) us d.ls ∧ BI d
theorem BlockO.fz {CB CL CF : Addr} {H H' : Hp} {v : V} {d : BD} (h : BlockO CB CL CF H v d) (k : Fz H H') : BlockO CB CL CF H' v d := by
  obtain ⟨x, dx, y, tp, us, e, hx, hy, ht, a, i⟩ := h
  exact ⟨x, dx, y, tp, us, e, k _ _ trivial hx, hy.fz k, k _ _ trivial ht, a.mono fun v l h => h.fz k, i⟩
theorem BlockO.same {CB CL CF : Addr} {H H' : Hp} {v : V} {d : BD} (h : BlockO CB CL CF H v d) (k : Same H H') : BlockO CB CL CF H' v d := h.fz (Fz.of_same k)
def spBEq (K : PySem.W.Frag) (CB CL CF : Addr) : Sp := fun vs H Q _ => ∃ (u v : V) (d : BD), vs = [u, v] ∧ BlockO CB CL CF H u d ∧
  ((∃ d', BlockO CB CL CF H v d' ∧ ∀ H', Same H H' → Q (.bl (decide (d = d'))) H') ∨ ∃ t, TyX K H v t ∧ PySem.W.kitOne K t (.ref CB) = some false ∧ Q (.bl false) H)
theorem ok_beq (T : Txt K mg) : FnOk P w K mg base CX0 5 T.a_Block___eq__ T.d_Block___eq__ ["self", "other"] (spBEq K T.c_Block T.c_Lane T.c_Form) := by
  have R_feq : FnR P w K mg base CX0 1 T.a_Form___eq__ (spFEq K T.c_Form) := fnR (ok_feq T) T.b_Form___eq__
  have R_leq : FnR P w K mg base CX0 3 T.a_Lane___eq__ (spLEq K T.c_Lane T.c_Form) := fnR (ok_leq T) T.b_Lane___eq__
  refine T.F_Block___eq__.ok sc_Block___eq__ (fun vs H Q E h => ?_) (fun cdv A outer s H vs Q E hr h => ?_)
  · obtain ⟨u, v, l, rfl, _⟩ := h
    rfl
  · obtain ⟨u, v, d, rfl, ⟨x, dx, y, tp, us, rfl, hx, hy, ht, ha, di⟩, hv⟩ := h
    have nd := sc_Block___eq__.nd
    refine ⟨_, (pss_one (ps_ret (pe_and (pe_callB call_isi (by rfl) T.z_isinstance (by decide +kernel) (pa_cons (pv 1) (pa_cons (pe_glob rfl T.m_Block (rel_ref _)) pa_nil))) (pe_and (pe_cmpR (op_eqO T.O_Form R_feq (hr.mono (by decide)) pass0) (pe_fld (pv 0) rfl) (pe_fld (pv 1) rfl) (nomark _)) (pe_one (pe_cmpR (op_eqB (rcB_tup (monB_ins SL.mon) (RcB.eqB (rcB_ins T.O_Lane R_leq pass0 SL.ask) refs)) (hr.mono (by decide))) (pe_fld (pv 0) rfl) (pe_fld (pv 1) rfl) (nomark _))))))), ?_⟩
    rcases hv with ⟨d', ⟨x', dx', y', tp', us', rfl, hx', hy', ht', ha', di'⟩, k⟩ | ⟨t, ty, kt, k⟩
    · refine ⟨_, rfl, _, _, _, _, _, rfl, .own _, T.I_Block.ty T.C_Block hx', kit_self, _, rfl, ifT rfl ?_⟩
      have no : d ≠ d' → Q (.bl false) H := fun n => by
        have k := k H (Same.refl _)
        rw [decide_eq_false n] at k
        exact k
      obtain ⟨dz, hz⟩ := id hy
      obtain ⟨dz', hz'⟩ := id hy'
      refine ⟨_, rfl, x, _, dx, _, _, rfl, hx, T.C_Block, T.n_Block_rounds, rfl, _, rfl, x', _, dx', _, _, rfl, hx', T.C_Block, T.n_Block_rounds, rfl, y, dz, _, _, rfl, hz, T.I_Form.ty T.C_Form hz', notFirst_self, y, _, _, _, _, rfl, hy, .inl ⟨y', _, _, _, rfl, hy', _, rfl, ifD (fun e2 => ?_) (fun e2 => no fun z => e2 (by rw [z]; exact ⟨rfl, rfl, rfl⟩))⟩⟩
      refine ⟨_, rfl, x, _, dx, _, _, rfl, hx, T.C_Block, T.n_Block_lanes, rfl, _, rfl, x', _, dx', _, _, rfl, hx', T.C_Block, T.n_Block_lanes, rfl, decide (d.ls = d'.ls), SL.tup ht ht' ha ha', fun H' e => ?_⟩
      have e3 : decide (d.ls = d'.ls) = decide (d = d') := by
        refine decide_eq_decide.mpr ⟨fun e3 => ?_, fun z => by rw [z]⟩
        obtain ⟨a, b, c⟩ := e2
        cases d
        cases d'
        simp only at e3 a b c
        subst e3 a b c
        rfl
      rw [e3]
      exact k H' e
    · exact ⟨_, rfl, _, _, _, _, _, rfl, .own _, ty, kt, _, rfl, ifF rfl k⟩
/-! texts -/
def nl : Str := "\n"
def roundsText (d : BD) : Str := Str.ofString "rounds " ++ formText d.t d.q d.c
def blockLines (d : BD) : List Str := roundsText d :: d.ls.map laneText
def blockText (d : BD) : Str := Txt.join nl (blockLines d)
theorem sum_le {m : Nat} : ∀ {xs : List Str}, (∀ x ∈ xs, x.length ≤ m) → (xs.map fun x => x.length).sum ≤ xs.length * m
  | [], _ => Nat.zero_le _
  | x :: xs, h => by
    have a := h x (List.mem_cons_self ..)
    have b := sum_le (xs := xs) fun y hy => h y (List.mem_cons_of_mem _ hy)
    rw [List.map_cons, List.sum_cons, List.length_cons, Nat.succ_mul]
    omega
theorem line_len {d : BD} (i : BI d) {x : Str} (h : x ∈ blockLines d) : x.length ≤ 100 := by
  rcases List.mem_cons.mp h with h | h
  · subst h
    have a := form_len i.r.r
    have b : (Str.ofString "rounds ").length = 7 := by decide
    unfold roundsText
    rw [Str.length_append]
    omega
  · obtain ⟨l, hl, rfl⟩ := List.mem_map.mp h
    exact lane_len (i.li l hl)
theorem lines_len {d : BD} (i : BI d) : (blockLines d).length ≤ 61 := by
  have := i.l1
  unfold blockLines
  rw [List.length_cons, List.length_map]
  omega
theorem lines_small {d : BD} (i : BI d) : ((blockLines d).map fun x => x.length).sum + (blockLines d).length * nl.length ≤ 16777216 := by
  have a := sum_le (fun x h => line_len i h)
  have b := lines_len i
  have c : nl.length = 1 := by decide
  rw [c]
  omega
def spBStr (CB CL CF : Addr) : Sp := fun vs H Q _ => ∃ (u : V) (d : BD), vs = [u] ∧ BlockO CB CL CF H u d ∧ ∀ H', Same H H' → Q (.str (blockText d)) H'
theorem ok_bstr (T : Txt K mg) : FnOk P w K mg base CX0 8 T.a_Block___str__ T.d_Block___str__ ["self"] (spBStr T.c_Block T.c_Lane T.c_Form) := by
  have R_fmt : FnR P w K mg base CX0 3 T.a_Form___str__ (spFStr T.c_Form) := fnR (ok_fstr T) T.b_Form___str__
  have R_lstr : FnR P w K mg base CX0 5 T.a_Lane___str__ (spLStr T.c_Lane T.c_Form) := fnR (ok_lstr T) T.b_Lane___str__
  refine T.F_Block___str__.ok sc_Block___str__ (fun vs H Q E h => ?_) (fun cdv A outer s H vs Q E hr h => ?_)
  · obtain ⟨u, l, rfl, _⟩ := h
    rfl
  · obtain ⟨u, d, rfl, ⟨x, dx, y, tp, us, rfl, hx, hy, ht, ha, di⟩, k⟩ := h
    have nd := sc_Block___str__.nd
    refine ⟨_, (pss_one (ps_ret (pe_join pe_str (pe_lst (pa_cons (pe_joined (.cons pe_str (.cons (pe_fmtO (pe_fld (pv 0) rfl) T.F_Form T.M_Form___str__ R_fmt (hr.mono (by decide)) pass0) .nil))) (StX.pa_star (pe_lc (own := [("lane", 1)]) (g := (gName 1)) (by rfl) nd (pi_tup (pe_fld (pv 0) rfl)) (blkOk_by (N := ["self", "lane"]) (sc := defScope s_Block___str__) (own := [("lane", 1)]) (by decide +kernel)) (fun _ _ _ _ _ => by exact (pg_name (i := 1) nd rfl (Or.inl rfl))) (fun _ _ _ _ _ => by exact pts_nil) (fun _ _ _ _ _ => by exact (pe_callTy (call_strO T.M_Lane___str__ R_lstr (hr.mono (by decide)) pass0) (by rfl) T.z_str (by decide +kernel) (pa_cons (pv 1) pa_nil)))) pa_nil)))))), ?_⟩
    have e9 := sizeLine_eq
    have w0 : Str.empty.length = 0 := rfl
    have w1 : (Str.ofString "rounds ").length = 7 := by decide
    have r := di.r.r
    have fl := form_len r
    have t1 := r.t1
    have q1 := r.q1
    have c1 := r.c1
    have c2 := r.c2
    obtain ⟨dz, hz⟩ := id hy
    refine ret_go ?_
    refine ⟨⟨_, rfl⟩, ?_⟩
    refine ⟨_, rfl, by simp only [Str.length_append]; omega, ?_⟩
    refine ⟨_, rfl, x, _, dx, _, _, rfl, hx, T.C_Block, T.n_Block_rounds, rfl, y, dz, _, rfl, hz, y, _, _, _, rfl, hy, by unfold Mid; omega, by unfold Mid; omega, c1, by unfold Mid; omega, _, rfl, _, rfl, by simp only [Str.length_append]; omega, ?_⟩
    refine ⟨_, rfl, x, _, dx, _, _, rfl, hx, T.C_Block, T.n_Block_lanes, rfl, tp, rfl, ⟨us, SqT.of ht⟩, fun D hD => ?_⟩
    have lu := ha.length
    have l1 := di.l1
    refine lc_tup (xs := us) (fun i Hc => Hc D = some (.lst (((d.ls.map laneText).take i).map V.str)) ∧ Same H Hc) ⟨by rw [upd_same, List.take_zero]; rfl, same_new hD⟩ (fun i Hc _ hP => SqT.of (hP.2 _ _ ht)) (fun i y Hc hy hP => ?_) (fun Hc hP => ?_)
    · obtain ⟨hDc, sc⟩ := hP
      obtain ⟨l, el, hl⟩ := ha.get hy
      obtain ⟨z, dz2, gs, rfl, hz2⟩ := hl.ins
      have hn := (List.getElem?_eq_some_iff.mp hy).1
      refine ⟨rfl, _, rfl, z, dz2, gs, rfl, sc _ _ hz2, _, l, rfl, hl.same sc, _, rfl, ?_⟩
      have eg : (d.ls.map laneText)[i]? = some (laneText l) := by
        rw [List.getElem?_map, el]
        rfl
      exact ⟨_, hDc, szl (by rw [List.length_map, List.length_take, List.length_map]; omega), by rw [upd_same, take_snoc eg, List.map_append]; rfl, same_lst sc hD⟩
    · obtain ⟨hDc, sc⟩ := hP
      rw [lu, show d.ls.length = (d.ls.map laneText).length by rw [List.length_map], List.take_length] at hDc
      refine ⟨D, _, rfl, .inr (SqL.of hDc), ?_⟩
      have eX : (Str.empty ++ Str.ofString "rounds " ++ formText d.t d.q d.c) = roundsText d := by
        unfold roundsText
        rw [Str.empty_append]
      have eL : V.str (Str.empty ++ Str.ofString "rounds " ++ formText d.t d.q d.c) :: (List.map V.str (List.map laneText d.ls) ++ []) = (blockLines d).map V.str := by
        rw [List.append_nil, eX]
        rfl
      refine ⟨by simp only [List.length_cons, List.length_append, List.length_map, List.length_nil]; omega, fun p np => ⟨nl, p, blockLines d, rfl, rfl, .inl (by rw [← eL]; exact SqL.of upd_same), lines_small di, k _ (sc.trans (same_new np))⟩⟩

end
end K55
namespace K55
open PySem PySem.Spec PyProof.Rows L2 Rs
local macro_rules | `(tactic| walk_at "om") => `(tactic| first | omega | (dsimp only; omega))
local macro_rules | `(tactic| walk_at "side") => `(tactic| first | omega | (dsimp only; omega) | decide | (unfold CMul; omega) | (unfold CDiv; omega) | (unfold CPow; omega) | exact wide_div (b := 64) (by omega) (by omega) (by decide) (by decide))
local macro_rules | `(tactic| walk_at "hp") => `(tactic| first | assumption | exact upd_same)
local macro_rules | `(tactic| walk_at "sq") => `(tactic| first | assumption | exact SqL.of (by assumption) | exact SqL.of upd_same)
local macro_rules | `(tactic| walk_at "st") => `(tactic| first
  | refine ⟨_, rfl, ?_⟩
  | (refine ⟨_, _, rfl, rfl, And.intro ?side ?_⟩; (case side => walk_at "side"))
  | refine ⟨_, _, rfl, rfl, ?_⟩
  | (refine' ⟨_, _, _, _, rfl, rfl, SqL.of ?hp, ?atx, ?_⟩; (case hp => walk_at "hp"); (case atx => exact rfl))
  | (refine' ⟨_, _, _, _, rfl, rfl, ?hp, ?atx, ?_⟩; (case hp => walk_at "hp"); (case atx => exact rfl))
  | (refine' ⟨_, _, rfl, Or.inl ?sq, ?_⟩; (case sq => walk_at "sq"))
  | refine Or.inl ⟨_, rfl, ?_⟩
  | refine Or.inr ⟨_, rfl, ?_⟩)
local macro_rules | `(tactic| walk_at "evd") => `(tactic| first
  | exact evd_int
  | exact evd_str
  | exact evd_non
  | exact evd_bl
  | exact evd_nil
  | (refine evd_cons ?_ (fun _ => ?_) <;> walk_at "evd")
  | (refine evd_tup ?_ (Nat.le_of_ble_eq_true rfl); walk_at "evd"))

section
variable {P : Program} {w : World} {K : PySem.W.Frag} {mg : Str → Option Value} {base : Heap}
/-! what signs the texts hold -/
theorem form_signs {t q c : Int} : ∀ x ∈ TL.tl (formText t q c), x ≠ 10 ∧ x ≠ 32 := by
  intro x h
  have up : ∀ x ∈ TL.tl (upperS t q), x ≠ 10 ∧ x ≠ 32 := fun x h => by
    have := upper_signs x h
    omega
  unfold formText at h
  split at h
  · exact up x h
  · have e1 : TL.tl (Str.ofString "(") = [40] := by decide
    have e2 : TL.tl (Str.ofString ")/") = [41, 47] := by decide
    simp only [TL.tl_append, List.mem_append, e1, e2, List.mem_cons, List.not_mem_nil, or_false] at h
    rcases h with h | h
    · omega
    rcases h with h | h
    · exact up x h
    rcases h with h | h
    · omega
    · have := nS_signs x h
      omega
theorem word_signs {y : Str} (h : y ∈ ways ∨ y ∈ signs ∨ y ∈ deeds) : ∀ x ∈ TL.tl y, x ≠ 10 ∧ x ≠ 32 := by
  unfold ways signs deeds at h
  simp only [List.mem_cons, List.not_mem_nil, or_false] at h
  rcases h with (h | h) | (h | h) | (h | h) <;> (subst h; decide)
theorem lane_split {l : LD} (i : LI l) : Txt.split (laneText l) blank = [l.w, l.s, formText l.t l.q l.c, l.d] := by
  refine TL.split_join (s := 32) (S := []) (by decide) (by decide +kernel) (by simp) fun p h m => ?_
  simp only [List.mem_cons, List.not_mem_nil, or_false] at h
  rcases h with h | h | h | h <;> subst h
  · exact (word_signs (.inl i.w) _ m).2 rfl
  · exact (word_signs (.inr (.inl i.s)) _ m).2 rfl
  · exact (form_signs _ m).2 rfl
  · exact (word_signs (.inr (.inr i.d)) _ m).2 rfl
theorem nine {t : Int} (h : t.natAbs < 10 ^ 9) : Nine t := h
theorem FormR.inj {t q c t' q' c' : Int} (r : FormR t q c) (r' : FormR t' q' c') (e : formText t q c = formText t' q' c') : t = t' ∧ q = q' ∧ c = c' :=
  formText_inj r.t1 r.q1 (by have := r.c1; have := r.c2; unfold Nine; omega) r'.t1 r'.q1 (by have := r'.c1; have := r'.c2; unfold Nine; omega) e
theorem lane_inj {l l' : LD} (i : LI l) (i' : LI l') (e : laneText l = laneText l') : l = l' := by
  have e := congrArg (fun z => Txt.split z blank) e
  simp only [lane_split i, lane_split i', List.cons.injEq, and_true] at e
  obtain ⟨e1, e2, e3, e4⟩ := e
  obtain ⟨f1, f2, f3⟩ := i.r.inj i'.r e3
  cases l
  cases l'
  simp only at e1 e2 e4 f1 f2 f3
  subst e1 e2 e4 f1 f2 f3
  rfl
theorem lane_no_nl {l : LD} (i : LI l) : 10 ∉ TL.tl (laneText l) := by
  intro m
  rw [lane_eq] at m
  have e1 : TL.tl blank = [32] := by decide
  simp only [TL.tl_append, List.mem_append, e1, List.mem_cons, List.not_mem_nil, or_false] at m
  rcases m with h | h | h | h | h | h | h
  · exact (word_signs (.inl i.w) _ h).1 rfl
  · omega
  · exact (word_signs (.inr (.inl i.s)) _ h).1 rfl
  · omega
  · exact (form_signs _ h).1 rfl
  · omega
  · exact (word_signs (.inr (.inr i.d)) _ h).1 rfl
theorem line_no_nl {d : BD} (i : BI d) : ∀ p ∈ blockLines d, 10 ∉ TL.tl p := fun p h m => by
  rcases List.mem_cons.mp h with h | h
  · subst h
    unfold roundsText at m
    rw [TL.tl_append, List.mem_append] at m
    rcases m with m | m
    · exact absurd m (by decide)
    · exact (form_signs _ m).1 rfl
  · obtain ⟨l, hl, rfl⟩ := List.mem_map.mp h
    exact lane_no_nl (i.li l hl) m
theorem block_split {d : BD} (i : BI d) : Txt.split (blockText d) nl = blockLines d :=
  TL.split_join (s := 10) (S := []) (by decide) (by decide +kernel) (by unfold blockLines; simp) (line_no_nl i)
theorem rounds_inj {d d' : BD} (i : BI d) (i' : BI d') (e : roundsText d = roundsText d') : d.t = d'.t ∧ d.q = d'.q ∧ d.c = d'.c := by
  refine i.r.r.inj i'.r.r (tl_inj ?_)
  have e := congrArg TL.tl e
  unfold roundsText at e
  rw [TL.tl_append, TL.tl_append] at e
  exact List.append_cancel_left e
theorem lanes_inj : ∀ {ls ls' : List LD}, (∀ l ∈ ls, LI l) → (∀ l ∈ ls', LI l) → ls.map laneText = ls'.map laneText → ls = ls'
  | [], [], _, _, _ => rfl
  | [], _ :: _, _, _, e => by cases e
  | _ :: _, [], _, _, e => by cases e
  | l :: ls, l' :: ls', h, h', e => by
    rw [List.map_cons, List.map_cons] at e
    injection e with e1 e2
    rw [lane_inj (h l (List.mem_cons_self ..)) (h' l' (List.mem_cons_self ..)) e1, lanes_inj (fun z hz => h z (List.mem_cons_of_mem _ hz)) (fun z hz => h' z (List.mem_cons_of_mem _ hz)) e2]
theorem block_inj {d d' : BD} (i : BI d) (i' : BI d') (e : blockText d = blockText d') : d = d' := by
  have e := congrArg (fun z => Txt.split z nl) e
  simp only [block_split i, block_split i'] at e
  unfold blockLines at e
  injection e with e1 e2
  obtain ⟨a, b, c⟩ := rounds_inj i i' e1
  have f := lanes_inj i.li i'.li e2
  cases d
  cases d'
  simp only at a b c f
  subst a b c f
  rfl
/-- the law's text of a plan -/
def planText (ds : List BD) : Str := Txt.join nl (ds.flatMap blockLines)
theorem plan_one {d : BD} : planText [d] = blockText d := by
  unfold planText blockText
  rw [List.flatMap_cons, List.flatMap_nil, List.append_nil]
theorem di_all {b : Addr} {H : Hp} {bs : List V} {ds : List BD} (h : AllR (BlockV b H) bs ds) : ∀ d ∈ ds, BI d := by
  induction h with
  | nil => intro d h; cases h
  | cons z _ ih =>
    intro d h
    obtain ⟨_, _, _, _, _, _, _, _, _, _, i⟩ := z
    rcases List.mem_cons.mp h with h | h
    · subst h; exact i
    · exact ih d h
theorem flat_len {ds : List BD} (h : ∀ d ∈ ds, BI d) : (ds.flatMap blockLines).length ≤ ds.length * 61 := by
  induction ds with
  | nil => exact Nat.zero_le _
  | cons d ds ih =>
    have a := lines_len (h d (List.mem_cons_self ..))
    have b := ih fun z hz => h z (List.mem_cons_of_mem _ hz)
    rw [List.flatMap_cons, List.length_append, List.length_cons, Nat.succ_mul]
    omega
theorem flat_small {ds : List BD} (l : ds.length ≤ 10) (h : ∀ d ∈ ds, BI d) : ((ds.flatMap blockLines).map fun x => x.length).sum + (ds.flatMap blockLines).length * nl.length ≤ 16777216 := by
  have a := sum_le (m := 100) (xs := ds.flatMap blockLines) (fun x hx => by
    obtain ⟨d, hd, hx⟩ := List.mem_flatMap.mp hx
    exact line_len (h d hd) hx)
  have b := flat_len h
  have c : nl.length = 1 := by decide
  rw [c]
  omega
def spPlanText (K : PySem.W.Frag) : Sp := fun vs H Q _ => ∃ (a b : Addr) (bs : List V) (ds : List BD), vs = [.ref a] ∧ H a = some (.lst bs) ∧ AllR (BlockV b H) bs ds ∧ ds.length ≤ 10 ∧ ∀ H', Same H H' → Q (.str (planText ds)) H'

theorem same_make {H H' : Hp} {x dx : Addr} {o1 o2 o3 : HO} (nx : H x = none) (ndx : H dx = none) (s : Same (upd (upd H dx o1) x o2) H') : Same H (upd H' x o3) := fun a o e => by
  rw [upd_ne (ne_of_none e nx)]
  refine s a o ?_
  rw [upd_ne (ne_of_none e nx), upd_ne (ne_of_none e ndx)]
  exact e
theorem same_made {H : Hp} {x dx : Addr} {o1 o2 o3 : HO} (nx : H x = none) (ndx : H dx = none) : Same H (upd (upd (upd H dx o1) x o2) x o3) := same_make nx ndx (Same.refl _)
theorem same_two {H : Hp} {x dx : Addr} {o1 o2 : HO} (nx : H x = none) (ndx : H dx = none) : Same H (upd (upd H dx o1) x o2) := fun a o e => by
  rw [upd_ne (ne_of_none e nx), upd_ne (ne_of_none e ndx)]
  exact e
def InsOf (C : Addr) (H : Hp) (v : V) : Prop := ∃ x dx fs, v = .ref x ∧ H x = some (.ins C dx fs)
theorem ne_of_none' {H : Hp} {a l : Addr} {o : HO} (h : H a = some o) (n : H l = none) : l ≠ a := by
  rintro rfl
  rw [n] at h
  cases h
theorem szl' {n : Nat} (h : n ≤ 10000) : n < sizeLine := Nat.lt_of_le_of_lt h (by decide)
/-- what a plan holds: its blocks, and what was found out -/
def planF (tp d : Addr) : List (Str × V) := putF "found" (.ref d) (putF "blocks" (.ref tp) [])
theorem upd_mid {H : Hp} {x d : Addr} {o1 o2 o3 : HO} (ne : d ≠ x) : upd (upd (upd H x o1) d o2) x o3 = upd (upd H d o2) x o3 := by
  funext a
  by_cases h : a = x
  · subst h
    rw [upd_same, upd_same]
  · rw [upd_ne h, upd_ne h]
    by_cases g : a = d
    · subst g
      rw [upd_same, upd_same]
    · rw [upd_ne g, upd_ne g, upd_ne h]

theorem op_eqOK {X : Cx} {K : PySem.W.Frag} {CX : CXT} {C g : Addr} {n : Nat} {sp : Sp} {E : XK} (e : X.K = K) (O : OwnQ K C g) (F : FnR X.prog X.w K X.mg X.base CX n g sp) (hr : Room n X.A) (hx : Passes CX X E) : OpR X (compareOp .Eq) (rEqO K C sp E) := by
  subst e
  exact op_eqO O F hr hx
theorem op_eqDK {X : Cx} {K : PySem.W.Frag} (e : X.K = K) (hu : X.A.units + 64 < cLine) : OpR X (compareOp .Eq) (rEqD K) := by
  subst e
  exact op_eqD hu
/-! lanes as data -/
def laneD (l : LD) : PyData := .tuple [.str l.w, .str l.s, .tuple [.int l.t, .int l.q, .int l.c], .str l.d]
theorem LaneV.dp {H : Hp} {v : V} {l : LD} (h : LaneV H v l) : Dp K H v (laneD l) := by
  obtain ⟨p, f, rfl, hp, hf, _⟩ := h
  exact .tup (SqT.of hp) (.cons (.str _) (.cons (.str _) (.cons (.tup (SqT.of hf) (.cons (.int _) (.cons (.int _) (.cons (.int _) .nil)))) (.cons (.str _) .nil))))
theorem laneD_ok {l : LD} (i : LI l) : okD 2 (laneD l) := okD.tuple fun d hd => by
  simp only [List.mem_cons, List.not_mem_nil, or_false] at hd
  rcases hd with rfl | rfl | rfl | rfl
  · exact ⟨word_ok (.inl i.w), Nat.zero_le _⟩
  · exact ⟨word_ok (.inr (.inl i.s)), Nat.zero_le _⟩
  · exact okD.tuple fun d hd => by
      simp only [List.mem_cons, List.not_mem_nil, or_false] at hd
      rcases hd with rfl | rfl | rfl <;> exact ⟨rfl, Nat.zero_le _⟩
  · exact ⟨word_ok (.inr (.inr i.d)), Nat.zero_le _⟩
theorem int_eqv {a b : Int} : PyData.eqv (.int a) (.int b) = decide (a = b) := by
  show (a == b) = _
  rw [Bool.eq_iff_iff]
  simp
theorem laneD_eqv {l l' : LD} : PyData.eqv (laneD l) (laneD l') = decide (l = l') := by
  show (PyData.eqv (.str l.w) (.str l'.w) && (PyData.eqv (.str l.s) (.str l'.s) && ((PyData.eqv (.int l.t) (.int l'.t) && (PyData.eqv (.int l.q) (.int l'.q) && (PyData.eqv (.int l.c) (.int l'.c) && true))) && (PyData.eqv (.str l.d) (.str l'.d) && true)))) = _
  rw [str_eqv, str_eqv, str_eqv, int_eqv, int_eqv, int_eqv, Bool.eq_iff_iff]
  cases l
  cases l'
  simp only [Bool.and_eq_true, decide_eq_true_eq, LD.mk.injEq, and_true]
  constructor
  · rintro ⟨a, b, ⟨c, d, e⟩, f⟩
    exact ⟨a, b, c, d, e, f⟩
  · rintro ⟨a, b, c, d, e, f⟩
    exact ⟨a, b, ⟨c, d, e⟩, f⟩
theorem dp_bools {H : Hp} : ∀ {bs : List Bool}, DpAll K H (bs.map V.bl) (bs.map PyData.bool)
  | [] => .nil
  | b :: bs => .cons (.bl b) dp_bools
theorem ok_bools {bs : List Bool} : okD 1 (.list (bs.map PyData.bool)) := okD.list fun d hd => by
  obtain ⟨n, _, rfl⟩ := List.mem_map.mp hd
  exact ⟨rfl, Nat.zero_le _⟩
theorem dp_strs {H : Hp} : ∀ {bs : List Str}, DpAll K H (bs.map V.str) (bs.map PyData.str)
  | [] => .nil
  | b :: bs => .cons (.str b) dp_strs
theorem LaneV.li {H : Hp} {v : V} {l : LD} (h : LaneV H v l) : LI l := by
  obtain ⟨_, _, _, _, _, i⟩ := h
  exact i
theorem cut_tail {x : V} {xs : List V} : cutV (x :: xs) (some 1) none = xs := by
  unfold cutV
  rw [show (some (1 : Int)) = some ((1 : Nat) : Int) from rfl, HT.sIx_none, HT.sIx_nat, List.length_cons, Nat.min_eq_left (by omega), List.drop_succ_cons, List.drop_zero, Nat.add_sub_cancel, List.take_length]
theorem tl_length (x : Str) : (TL.tl x).length = x.length := by
  unfold TL.tl Str.length
  rw [Array.length_toList]
theorem joinL_le {S : List Nat} : ∀ {ps : List (List Nat)}, (TL.joinL S ps).length ≤ (ps.map fun x => x.length).sum + ps.length * S.length
  | [] => Nat.zero_le _
  | [p] => by
    show p.length ≤ _
    simp only [List.map_cons, List.map_nil, List.sum_cons, List.sum_nil]
    omega
  | p :: q :: r => by
    have ih := joinL_le (S := S) (ps := q :: r)
    show (p ++ (S ++ TL.joinL S (q :: r))).length ≤ _
    rw [List.length_append, List.length_append, List.map_cons, List.sum_cons, List.length_cons (as := q :: r), Nat.succ_mul]
    omega
theorem join_len {y : Str} {xs : List Str} : (Txt.join y xs).length ≤ (xs.map fun x => x.length).sum + xs.length * y.length := by
  have h := joinL_le (S := TL.tl y) (ps := xs.map TL.tl)
  rw [← TL.tl_join, ← TL.join_eq, tl_length, tl_length, List.length_map, List.map_map] at h
  refine Nat.le_trans h (Nat.le_of_eq ?_)
  congr 2
theorem ifs_go {c : TT} {t u : TS} {D : Ends} {σ : L2.St} {H : Hp} (h : c σ H fun b H1 => if b = true then t D σ H1 else u D σ H1) : tIfS c t u D σ H := h
theorem ok_of (t : String) : PyData.strOk (Str.ofString t) = true := by
  rw [Str.ofString_eq_toList]
  unfold PyData.strOk
  rw [Array.all_eq_true']
  intro x hx
  rw [List.mem_toArray, List.mem_map] at hx
  obtain ⟨c, _, rfl⟩ := hx
  refine decide_eq_true ?_
  have := c.valid
  rcases this with h | h
  · show c.val.toNat < 1114112
    have : c.val.toNat < 55296 := h
    omega
  · exact h.2
theorem ok_app {a b : Str} (ha : PyData.strOk a = true) (hb : PyData.strOk b = true) : PyData.strOk (a ++ b) = true := by
  unfold PyData.strOk at ha hb ⊢
  rw [Str.cps_append, Array.all_append, ha, hb]
  rfl
theorem ok_joinS {sep : Str} (hs : PyData.strOk sep = true) : ∀ {xs : List Str}, (∀ x ∈ xs, PyData.strOk x = true) → PyData.strOk (Str.join sep xs) = true
  | [], _ => by
    show (#[] : Array Nat).all (· < 0x110000) = true
    simp
  | [x], h => h x List.mem_cons_self
  | x :: y :: r, h => ok_app (ok_app (h x List.mem_cons_self) hs) (ok_joinS (xs := y :: r) hs fun z hz => h z (List.mem_cons_of_mem _ hz))
theorem ok_join {sep : Str} (hs : PyData.strOk sep = true) {xs : List Str} (h : ∀ x ∈ xs, PyData.strOk x = true) : PyData.strOk (Txt.join sep xs) = true := by
  have e : Txt.join sep xs = Str.join sep xs := StrLaws.glued_eq_join sep xs
  rw [e]
  exact ok_joinS hs h
theorem form_small {t q c : Int} : PyData.strOk (formText t q c) = true := by
  unfold PyData.strOk
  rw [Array.all_eq_true']
  intro x h
  have h : x ∈ TL.tl (formText t q c) := Array.mem_toList_iff.mpr h
  have up : ∀ x ∈ TL.tl (upperS t q), x < 1114112 := fun x h => by
    have := upper_signs x h
    omega
  refine decide_eq_true ?_
  unfold formText at h
  split at h
  · exact up x h
  · have e1 : TL.tl (Str.ofString "(") = [40] := by decide
    have e2 : TL.tl (Str.ofString ")/") = [41, 47] := by decide
    simp only [TL.tl_append, List.mem_append, e1, e2, List.mem_cons, List.not_mem_nil, or_false] at h
    rcases h with h | h
    · omega
    rcases h with h | h
    · exact up x h
    rcases h with h | h
    · omega
    · have := nS_signs x h
      omega
theorem lane_small {l : LD} (i : LI l) : PyData.strOk (laneText l) = true := ok_join (ok_of _) fun x hx => by
  simp only [List.mem_cons, List.not_mem_nil, or_false] at hx
  rcases hx with rfl | rfl | rfl | rfl
  · exact word_ok (.inl i.w)
  · exact word_ok (.inr (.inl i.s))
  · exact form_small
  · exact word_ok (.inr (.inr i.d))
theorem lanes_ok {ls : List LD} (h : ∀ l ∈ ls, LI l) : okD 1 (.list ((ls.map laneText).map PyData.str)) := okD.list fun d hd => by
  obtain ⟨x, hx, rfl⟩ := List.mem_map.mp hd
  obtain ⟨l, hl, rfl⟩ := List.mem_map.mp hx
  exact ⟨lane_small (h l hl), Nat.zero_le _⟩
theorem make_block {CB CF CL : Addr} {H : Hp} {x dx xr dr a : Addr} {t q c : Int} {us : List V} {ls : List LD} {Q : VK} (hxr : H xr = some (.ins CF dr (fldF t q c))) (ha : H a = some (.lst us) ∨ H a = some (.tup us)) (hus : AllR (LaneO CL CF H) us ls) (di : BI ⟨t, q, c, ls⟩) (nx : H x = none) (nd : H dx = none)
    (k : ∀ H', Same H H' → BlockO CB CL CF H' (.ref x) ⟨t, q, c, ls⟩ → Q .non H') : spBlockG K CB CF CL [.ref x, .ref xr, .ref a] (upd (upd H dx (.own x)) x (.ins CB dx [])) Q E0 := by
  have sb := same_two (o1 := .own x) (o2 := .ins CB dx []) nx nd
  have hgb := hus.mono fun v l h => h.same sb
  have e := hus.length
  have l0 := di.l0
  have l1 := di.l1
  dsimp only at l0 l1
  refine ⟨x, dx, xr, a, us, rfl, upd_same, ⟨dr, _, sb _ _ hxr⟩, ha.imp (sb _ _) (sb _ _), by omega, by omega, fun y hy => ?_, fun H10 tp s10 htp => ?_⟩
  · obtain ⟨l, _, hl⟩ := hgb.left hy
    exact hl.ins
  have s3 : Same H (upd H10 x (.ins CB dx (fldB xr tp))) := same_make nx nd s10
  have hx7 : H10 x = some (.ins CB dx []) := s10 _ _ upd_same
  have ntx : tp ≠ x := by
    rintro rfl
    rw [hx7] at htp
    cases htp
  have htp3 : upd H10 x (.ins CB dx (fldB xr tp)) tp = some (.tup us) := by
    rw [upd_ne ntx]
    exact htp
  exact k _ s3 ⟨x, dx, xr, tp, us, rfl, upd_same, ⟨dr, s3 _ _ hxr⟩, htp3, hus.mono fun v l h => h.same s3, di⟩
theorem BlockV.bi {b : Addr} {H : Hp} {v : V} {d : BD} (h : BlockV b H v d) : BI d := by
  obtain ⟨_, _, _, _, _, _, _, _, _, _, i⟩ := h
  exact i

end
end K55
namespace K55
open PySem PySem.Spec PyProof.Rows L2 Rs
local macro_rules | `(tactic| walk_at "om") => `(tactic| first | omega | (dsimp only; omega))
local macro_rules | `(tactic| walk_at "side") => `(tactic| first | omega | (dsimp only; omega) | decide | (unfold CMul; omega) | (unfold CDiv; omega) | (unfold CPow; omega) | exact wide_div (b := 64) (by omega) (by omega) (by decide) (by decide))
local macro_rules | `(tactic| walk_at "hp") => `(tactic| first | assumption | exact upd_same)
local macro_rules | `(tactic| walk_at "sq") => `(tactic| first | assumption | exact SqL.of (by assumption) | exact SqL.of upd_same)
local macro_rules | `(tactic| walk_at "st") => `(tactic| first
  | refine ⟨_, rfl, ?_⟩
  | (refine ⟨_, _, rfl, rfl, And.intro ?side ?_⟩; (case side => walk_at "side"))
  | refine ⟨_, _, rfl, rfl, ?_⟩
  | (refine' ⟨_, _, _, _, rfl, rfl, SqL.of ?hp, ?atx, ?_⟩; (case hp => walk_at "hp"); (case atx => exact rfl))
  | (refine' ⟨_, _, _, _, rfl, rfl, ?hp, ?atx, ?_⟩; (case hp => walk_at "hp"); (case atx => exact rfl))
  | (refine' ⟨_, _, rfl, Or.inl ?sq, ?_⟩; (case sq => walk_at "sq"))
  | refine Or.inl ⟨_, rfl, ?_⟩
  | refine Or.inr ⟨_, rfl, ?_⟩)
local macro_rules | `(tactic| walk_at "evd") => `(tactic| first
  | exact evd_int
  | exact evd_str
  | exact evd_non
  | exact evd_bl
  | exact evd_nil
  | (refine evd_cons ?_ (fun _ => ?_) <;> walk_at "evd")
  | (refine evd_tup ?_ (Nat.le_of_ble_eq_true rfl); walk_at "evd"))

section
variable {P : Program} {w : World} {K : PySem.W.Frag} {mg : Str → Option Value} {base : Heap}
theorem Same.seqT {H H' : Hp} {a : Addr} {xs : List V} (s : Same H H') (h : SqT K H a xs) : SqT K H' a xs := (Fz.of_same s).sqT h
/-- a list or a tuple of blocks: made; its tuple is new, or the one that was handed -/
def spPlanS (K : PySem.W.Frag) (CP CB : Addr) : Sp := fun vs H Q _ => ∃ (x dx a : Addr) (xs : List V), vs = [.ref x, .ref a] ∧ H x = some (.ins CP dx []) ∧ xs.length ≤ 1000 ∧ (∀ y ∈ xs, InsOf CB H y) ∧
  ((H a = some (.lst xs) ∧ ∀ H' tp d, Same H H' → H' tp = some (.tup xs) → Q .non (upd H' x (.ins CP dx (planF tp d)))) ∨ (SqT K H a xs ∧ ∀ H' d, Same H H' → Q .non (upd H' x (.ins CP dx (planF a d)))))
theorem ok_planS (T : Txt K mg) : FnOk P w K mg base CX0 2 T.a_Plan___init__ T.d_Plan___init__ ["self", "blocks"] (spPlanS K T.c_Plan T.c_Block) := by
  have G_is_sequence : FnOk P w K mg base CX0 1 T.a_is_sequence T.d_is_sequence ["value"] (spSeq K) := ok_seq T
  refine T.F_Plan___init__.ok sc_Plan___init__ (fun vs H Q E h => ?_) (fun cdv A outer s H vs Q E hr h => ?_)
  · obtain ⟨x, dx, a, xs, rfl, _⟩ := h
    rfl
  · obtain ⟨x, dx, a, xs, rfl, hx, xl, hxs, hseq⟩ := h
    have nd := sc_Plan___init__.nd
    refine ⟨_, (pss_cons (ps_if (PW.pt (pw_or (pt_not (pt_val (pe_call G_is_sequence (hr.mono (by first | decide | omega)) (by rfl) T.m_is_sequence T.k_is_sequence T.b_is_sequence .nil pass0 (pa_cons (pv 1) pa_nil)))) (pw_or1 (pt_not (pt_val (pe_callB (cr_all rfl) (by rfl) T.z_all (by decide +kernel) (pa_cons (pe_lc (own := [("block", 2)]) (g := (gName 2)) (by rfl) nd (pi_seqA (pv 1)) (blkOk_by (N := ["self", "blocks", "block"]) (sc := defScope s_Plan___init__) (own := [("block", 2)]) (by decide +kernel)) (fun _ _ _ _ _ => by exact (pg_name (i := 2) nd rfl (Or.inl rfl))) (fun _ _ _ _ _ => by exact pts_nil) (fun _ _ _ _ _ => by exact (pe_callB (call_isiC (K := K) rfl) (by rfl) T.z_isinstance (by decide +kernel) (pa_cons (pv 2) (pa_cons (pe_glob rfl T.m_Block (rel_ref _)) pa_nil))))) pa_nil))))))) (pss_one ps_never) pss_nil)
    (pss_cons (ps_fld (pv 0) (pe_callTy call_tuple_of (by rfl) T.z_tuple (by decide +kernel) (pa_cons (pv 1) pa_nil)) rfl)
    (pss_one (ps_fld (pv 0) pe_dnewK rfl)))), ?_⟩
    rcases hseq with ⟨ha, good⟩ | ⟨ha, good⟩
    · refine ⟨_, rfl, _, _, _, rfl, .base (.lst ha), kit_seq_list, fun H1 s1 => ⟨_, rfl, ifF rfl ?_⟩⟩
      have ha1 : SqL K H1 a xs := SqL.of (s1 _ _ ha)
      refine ⟨_, rfl, a, rfl, .inl ⟨xs, ha1, fun D hD => ?_⟩⟩
      refine lc_list (xs := xs) (fun i Hc => Hc D = some (.lst ((List.replicate i true).map V.bl)) ∧ Same H1 Hc) ⟨upd_same, same_new hD⟩ (fun i Hc _ hP => hP.2.seq ha1) (fun i y Hc hy hP => ?_) (fun Hc hP => ?_)
      · obtain ⟨hDc, sc⟩ := hP
        obtain ⟨z, dz, gs, rfl, hz⟩ := hxs y (List.mem_of_getElem? hy)
        have hn := (List.getElem?_eq_some_iff.mp hy).1
        refine ⟨rfl, _, rfl, _, _, _, _, _, rfl, .own _, T.I_Block.ty T.C_Block (sc _ _ (s1 _ _ hz)), kit_self, ?_⟩
        exact ⟨_, hDc, szl' (by rw [List.length_map, List.length_replicate]; omega), by rw [upd_same, List.replicate_succ', List.map_append]; rfl, same_lst sc hD⟩
      · obtain ⟨hDc, sc⟩ := hP
        have sH := s1.trans sc
        refine ⟨D, List.replicate xs.length true, rfl, SqL.of hDc, _, rfl, ifF (by simp) ?_⟩
        refine ⟨_, rfl, a, _, rfl, .inl ⟨sc.seq ha1, fun tp ntp => ?_⟩⟩
        have ntx : tp ≠ x := ne_of_none' (sH _ _ hx) ntp
        refine ⟨_, rfl, x, T.c_Plan, dx, _, rfl, by rw [upd_ne (Ne.symm ntx)]; exact sH _ _ hx, T.C_Plan, T.n_Plan_blocks, by decide, ?_⟩
        refine fun d nd9 => ?_
        have nex : d ≠ x := fun e => by
          rw [e, upd_same] at nd9
          cases nd9
        rw [upd_ne nex] at nd9
        refine ⟨_, rfl, x, T.c_Plan, dx, _, rfl, by rw [upd_ne (Ne.symm nex)]; exact upd_same, T.C_Plan, T.n_Plan_found, by show 1 < 1000; decide, ?_⟩
        rw [upd_mid nex]
        exact good _ tp d ((sH.trans (same_new ntp)).trans (same_new nd9)) (same_new nd9 _ _ upd_same)
    · refine ⟨_, rfl, _, _, _, rfl, sqT_ty ha, kit_seq_tup, fun H1 s1 => ⟨_, rfl, ifF rfl ?_⟩⟩
      have ha1 : SqT K H1 a xs := Same.seqT s1 ha
      refine ⟨_, rfl, a, rfl, .inr ⟨xs, ha1, fun D hD => ?_⟩⟩
      refine lc_tup (xs := xs) (fun i Hc => Hc D = some (.lst ((List.replicate i true).map V.bl)) ∧ Same H1 Hc) ⟨upd_same, same_new hD⟩ (fun i Hc _ hP => Same.seqT hP.2 ha1) (fun i y Hc hy hP => ?_) (fun Hc hP => ?_)
      · obtain ⟨hDc, sc⟩ := hP
        obtain ⟨z, dz, gs, rfl, hz⟩ := hxs y (List.mem_of_getElem? hy)
        have hn := (List.getElem?_eq_some_iff.mp hy).1
        refine ⟨rfl, _, rfl, _, _, _, _, _, rfl, .own _, T.I_Block.ty T.C_Block (sc _ _ (s1 _ _ hz)), kit_self, ?_⟩
        exact ⟨_, hDc, szl' (by rw [List.length_map, List.length_replicate]; omega), by rw [upd_same, List.replicate_succ', List.map_append]; rfl, same_lst sc hD⟩
      · obtain ⟨hDc, sc⟩ := hP
        have sH := s1.trans sc
        refine ⟨D, List.replicate xs.length true, rfl, SqL.of hDc, _, rfl, ifF (by simp) ?_⟩
        refine ⟨_, rfl, a, _, rfl, .inr ⟨Same.seqT sc ha1, ?_⟩⟩
        refine ⟨_, rfl, x, T.c_Plan, dx, _, rfl, sH _ _ hx, T.C_Plan, T.n_Plan_blocks, by decide, ?_⟩
        refine fun d nd9 => ?_
        have nex : d ≠ x := fun e => by
          rw [e, upd_same] at nd9
          cases nd9
        rw [upd_ne nex] at nd9
        refine ⟨_, rfl, x, T.c_Plan, dx, _, rfl, by rw [upd_ne (Ne.symm nex)]; exact upd_same, T.C_Plan, T.n_Plan_found, by show 1 < 1000; decide, ?_⟩
        rw [upd_mid nex]
        exact good _ d (sH.trans (same_new nd9))

def PlanO (CP CB CL CF : Addr) (H : Hp) (v : V) (ds : List BD) : Prop := ∃ x dx tp bs d, v = .ref x ∧ H x = some (.ins CP dx (planF tp d)) ∧ H tp = some (.tup bs) ∧ AllR (BlockO CB CL CF H) bs ds
theorem PlanO.fz {CP CB CL CF : Addr} {H H' : Hp} {v : V} {ds : List BD} (h : PlanO CP CB CL CF H v ds) (k : Fz H H') : PlanO CP CB CL CF H' v ds := by
  obtain ⟨x, dx, tp, bs, d, e, hx, ht, a⟩ := h
  exact ⟨x, dx, tp, bs, d, e, k _ _ trivial hx, k _ _ trivial ht, a.mono fun v l h => h.fz k⟩
def spPlanOf (CP CB CL CF : Addr) : Sp := fun vs H Q _ => ∃ (a b : Addr) (bs : List V) (ds : List BD), vs = [.ref a] ∧ H a = some (.lst bs) ∧ AllR (BlockV b H) bs ds ∧ ds.length ≤ 100 ∧ ∀ u H', Same H H' → PlanO CP CB CL CF H' u ds → Q u H'
theorem BlockO.ins {CB CL CF : Addr} {H : Hp} {v : V} {d : BD} (h : BlockO CB CL CF H v d) : InsOf CB H v := by
  obtain ⟨x, dx, y, tp, us, e, hx, _⟩ := h
  exact ⟨x, dx, _, e, hx⟩

end
end K55
namespace K55
open PySem PySem.Spec PyProof.Rows L2 Rs
local macro_rules | `(tactic| walk_at "om") => `(tactic| first | omega | (dsimp only; omega))
local macro_rules | `(tactic| walk_at "side") => `(tactic| first | omega | (dsimp only; omega) | decide | (unfold CMul; omega) | (unfold CDiv; omega) | (unfold CPow; omega) | exact wide_div (b := 64) (by omega) (by omega) (by decide) (by decide))
local macro_rules | `(tactic| walk_at "hp") => `(tactic| first | assumption | exact upd_same)
local macro_rules | `(tactic| walk_at "sq") => `(tactic| first | assumption | exact SqL.of (by assumption) | exact SqL.of upd_same)
local macro_rules | `(tactic| walk_at "st") => `(tactic| first
  | refine ⟨_, rfl, ?_⟩
  | (refine ⟨_, _, rfl, rfl, And.intro ?side ?_⟩; (case side => walk_at "side"))
  | refine ⟨_, _, rfl, rfl, ?_⟩
  | (refine' ⟨_, _, _, _, rfl, rfl, SqL.of ?hp, ?atx, ?_⟩; (case hp => walk_at "hp"); (case atx => exact rfl))
  | (refine' ⟨_, _, _, _, rfl, rfl, ?hp, ?atx, ?_⟩; (case hp => walk_at "hp"); (case atx => exact rfl))
  | (refine' ⟨_, _, rfl, Or.inl ?sq, ?_⟩; (case sq => walk_at "sq"))
  | refine Or.inl ⟨_, rfl, ?_⟩
  | refine Or.inr ⟨_, rfl, ?_⟩)
local macro_rules | `(tactic| walk_at "evd") => `(tactic| first
  | exact evd_int
  | exact evd_str
  | exact evd_non
  | exact evd_bl
  | exact evd_nil
  | (refine evd_cons ?_ (fun _ => ?_) <;> walk_at "evd")
  | (refine evd_tup ?_ (Nat.le_of_ble_eq_true rfl); walk_at "evd"))

section
variable {P : Program} {w : World} {K : PySem.W.Frag} {mg : Str → Option Value} {base : Heap}
/-! texts read back -/
theorem sub_one {x y : Str} {s : Nat} (ey : TL.tl y = [s]) : Builtin.Str.subAt x y 0 = decide ((TL.tl x).head? = some s) := by
  have ey2 : y.cps.toList = [s] := ey
  have ly : y.length = 1 := by
    have : y.cps.toList.length = y.length := Array.length_toList
    rw [← this, ey2]
    rfl
  rw [PySem.StrLaws.subAt_eq, ly, ey2, List.drop_zero]
  show (List.take 1 (TL.tl x) == [s]) = _
  cases TL.tl x with
  | nil => rfl
  | cons a r =>
    rw [Bool.eq_iff_iff]
    simp
theorem starts_one {x y : Str} {s : Nat} (ey : TL.tl y = [s]) : Txt.startswith x y = decide ((TL.tl x).head? = some s) := by
  unfold Txt.startswith
  rw [sub_one ey]
  have ly : y.length = 1 := by
    rw [← tl_length, ey]
    rfl
  cases h : TL.tl x with
  | nil => simp
  | cons a r =>
    have lx : x.length = r.length + 1 := by
      rw [← tl_length, h]
      rfl
    rw [decide_eq_true (show 0 + y.length ≤ x.length by omega), Bool.true_and]
theorem rp_hit {x y : Str} {s : Nat} {r : List Nat} (ey : TL.tl y = [s]) (ex : TL.tl x = s :: r) : TL.tl (Txt.removeprefix x y) = r := by
  unfold Txt.removeprefix
  rw [sub_one ey, ex]
  have ly : y.length = 1 := by
    rw [← tl_length, ey]
    rfl
  have lx : x.length = r.length + 1 := by
    rw [← tl_length, ex]
    rfl
  simp only [List.head?_cons, decide_true, if_true]
  unfold Txt.affix
  dsimp only
  rw [if_neg (by rw [beq_iff_eq, ly, lx]; omega), ly, TL.tl_strSub_end, ex]
  rfl
theorem rp_miss {x y : Str} {s : Nat} (ey : TL.tl y = [s]) (ex : (TL.tl x).head? ≠ some s) : Txt.removeprefix x y = x := by
  unfold Txt.removeprefix
  rw [sub_one ey, decide_eq_false ex]
  rfl
theorem digit_one {c : Nat} (h : 48 ≤ c ∧ c ≤ 57) : Unicode.isDigit c = true := by
  obtain ⟨a, b⟩ := h
  have : c = 48 ∨ c = 49 ∨ c = 50 ∨ c = 51 ∨ c = 52 ∨ c = 53 ∨ c = 54 ∨ c = 55 ∨ c = 56 ∨ c = 57 := by omega
  rcases this with h | h | h | h | h | h | h | h | h | h <;> (subst h; decide +kernel)

/-- the signs of a number without its dash -/
def absL (n : Int) : List Nat := (Nat.toDigits 10 n.natAbs).map Char.toNat
theorem absL_ne {n : Int} : absL n ≠ [] := digits_ne
theorem num_digits {x : Str} {n : Int} (e : TL.tl x = absL n) : Txt.isascii x = true ∧ Txt.isdigit x = true := by
  have d : ∀ c ∈ x.cps.toList, 48 ≤ c ∧ c ≤ 57 := fun c hc => by
    have hc : c ∈ TL.tl x := hc
    rw [e] at hc
    exact digs c hc
  constructor
  · unfold Txt.isascii
    rw [Array.all_eq_true']
    intro c hc
    have := d c (Array.mem_toList_iff.mpr hc)
    exact decide_eq_true (by omega)
  · unfold Txt.isdigit
    rw [Bool.and_eq_true, Array.all_eq_true']
    refine ⟨decide_eq_true ?_, fun c hc => digit_one (d c (Array.mem_toList_iff.mpr hc))⟩
    rw [← tl_length, e]
    exact List.length_pos_iff.mpr absL_ne
theorem dash_off {n : Int} : TL.tl (Txt.removeprefix (nS n) "-") = absL n := by
  have ey : TL.tl (Str.ofString "-") = [45] := by decide
  by_cases h : n < 0
  · exact rp_hit ey (signs_neg h)
  · have e := signs_pos (n := n) (by omega)
    rw [rp_miss ey, e]
    · rfl
    · rw [e]
      intro z
      cases hd : absL n with
      | nil => exact absL_ne hd
      | cons c r =>
        have z : (absL n).head? = some 45 := z
        rw [hd] at z
        have := digs (m := n.natAbs) c (by show c ∈ absL n; rw [hd]; exact List.mem_cons_self ..)
        injection z with z
        omega
theorem nS_reads {n : Int} (h : Nine n) : PySem.intText? (nS n) = some n := by
  unfold Nine at h
  by_cases a : n < 0
  · have e : (nS n).cps.toList = 45 :: absL n := signs_neg a
    have z := PySem.intText_neg (x := nS n) e (fun c hc => digs c hc) absL_ne (by
      have := nS_mid (n := n) (by unfold Mid; omega)
      omega)
    rw [z]
    have v := PySem.W.KIN.val_back n.natAbs
    unfold absL
    rw [v]
    congr 1
    omega
  · exact PySem.W.KIN.num_reads (by omega) (by omega)
def spWholeN : Sp := fun vs H Q _ => ∃ n : Int, vs = [.str (nS n)] ∧ Nine n ∧ Q (.int n) H
theorem ok_wholeN (T : Txt K mg) : FnOk P w K mg base CX0 1 T.a_whole_in T.d_whole_in ["word"] spWholeN := by
  refine T.F_whole_in.ok sc_whole_in (fun vs H Q E h => ?_) (fun cdv A outer s H vs Q E hr h => ?_)
  · obtain ⟨n, rfl, _⟩ := h
    rfl
  · obtain ⟨n, rfl, hn, k⟩ := h
    have nd := sc_whole_in.nd
    refine ⟨_, (pss_cons (ps_set (i := 1) nd rfl (Or.inl rfl) (pe_m1 PySem.F.slot_str_removeprefix PySem.F.type_str_removeprefix mt_removeprefix (pv 0) pe_str))
    (pss_one (ps_ret (pe_ifExp (PW.pt (pw_and (pt_val (pe_m0 PySem.F.slot_str_isascii PySem.F.type_str_isascii mt_isascii (pv 1))) (pw_and1 (pt_val (pe_m0 PySem.F.slot_str_isdigit PySem.F.type_str_isdigit mt_isdigit (pv 1)))))) (pe_callTy call_int_str (by rfl) T.z_int (by decide +kernel) (pa_cons (pv 0) pa_nil)) pe_non)))), ?_⟩
    have d := num_digits (dash_off (n := n))
    have ln := nS_mid (n := n) (by unfold Nine at hn; unfold Mid; omega)
    refine asg_go ?_
    refine ⟨_, rfl, ⟨_, rfl⟩, _, _, rfl, rfl, by have := sizeLine_eq; omega, ?_⟩
    dsimp only [gName]
    refine ret_go ?_
    refine ⟨_, rfl, ⟨_, rfl⟩, _, rfl, rfl, trivial, _, rfl, ifT d.1 ?_⟩
    refine ⟨_, rfl, ⟨_, rfl⟩, _, rfl, rfl, trivial, _, rfl, ifT d.2 ?_⟩
    exact ⟨_, rfl, nS n, n, rfl, nS_reads hn, by omega, k⟩
def spFactor : Sp := fun vs H Q _ => ∃ (t : Int) (x : Str), vs = [.str x] ∧ TL.tl x = headL t ∧ Nine t ∧ t ≠ 0 ∧ Q (.int t) H
theorem ok_factor (T : Txt K mg) : FnOk P w K mg base CX0 2 T.a__factor T.d__factor ["word"] spFactor := by
  have G_whole_in : FnOk P w K mg base CX0 1 T.a_whole_in T.d_whole_in ["word"] spWholeN := ok_wholeN T
  refine T.F__factor.ok sc__factor (fun vs H Q E h => ?_) (fun cdv A outer s H vs Q E hr h => ?_)
  · obtain ⟨t, x, rfl, _⟩ := h
    rfl
  · obtain ⟨t, x, rfl, hx, hn, h0, k⟩ := h
    have nd := sc__factor.nd
    refine ⟨_, (pss_cons (ps_if (pt_cmpR op_eq (pv 0) pe_str (nomark _)) (pss_one (ps_ret pe_int)) pss_nil)
    (pss_cons (ps_if (pt_cmpR op_eq (pv 0) pe_str (nomark _)) (pss_one (ps_ret (pe_un un_neg pe_int))) pss_nil)
    (pss_one (ps_ret (pe_call G_whole_in (hr.mono (by first | decide | omega)) (by rfl) T.m_whole_in T.k_whole_in T.b_whole_in .nil pass0 (pa_cons (pv 0) pa_nil)))))), ?_⟩
    have ee : TL.tl (Str.ofString "") = [] := by decide
    have ed : TL.tl (Str.ofString "-") = [45] := by decide
    have ne : ∀ {y : Str}, TL.tl x ≠ TL.tl y → decide (V.str x = V.str y) = false := fun {y} h => decide_eq_false fun e => by
      injection e with e
      exact h (by rw [e])
    unfold headL at hx
    by_cases h1 : t = 1
    · rw [if_pos h1] at hx
      have e : x = Str.ofString "" := tl_inj (by rw [hx, ee])
      refine seqif_go (tst_go ?_)
      refine ⟨_, rfl, rfl, _, rfl, ifT (by rw [e]; exact decide_eq_true rfl) ?_⟩
      rw [h1] at k
      exact k
    rw [if_neg h1] at hx
    by_cases h2 : t = -1
    · rw [if_pos h2] at hx
      have e : x = Str.ofString "-" := tl_inj (by rw [hx, ed])
      refine seqif_go (tst_go ?_)
      refine ⟨_, rfl, rfl, _, rfl, ifF (ne (by rw [hx, ee]; simp)) ?_⟩
      dsimp only [tNext]
      refine seqif_go (tst_go ?_)
      refine ⟨_, rfl, rfl, _, rfl, ifT (by rw [e]; exact decide_eq_true rfl) ?_⟩
      rw [h2] at k
      exact ⟨_, rfl, k⟩
    rw [if_neg h2] at hx
    have e : x = nS t := tl_inj hx
    refine seqif_go (tst_go ?_)
    refine ⟨_, rfl, rfl, _, rfl, ifF (ne (by rw [hx, ee]; exact nS_ne)) ?_⟩
    dsimp only [tNext]
    refine seqif_go (tst_go ?_)
    refine ⟨_, rfl, rfl, _, rfl, ifF (ne (by rw [hx, ed]; exact nS_dash)) ?_⟩
    dsimp only [tNext]
    refine ret_go ?_
    exact ⟨_, rfl, t, by rw [e]; rfl, hn, k⟩
def spUParts (K : PySem.W.Frag) : Sp := fun vs H Q _ => ∃ (t q : Int), vs = [.str (upperS t q)] ∧ Nine t ∧ Nine q ∧ ∀ p H', Same H H' → H' p = some (.tup [.int t, .int q]) → Q (.ref p) H'
theorem ok_uparts (T : Txt K mg) : FnOk P w K mg base CX0 3 T.a__upper_parts T.d__upper_parts ["upper"] (spUParts K) := by
  have G_whole_in : FnOk P w K mg base CX0 1 T.a_whole_in T.d_whole_in ["word"] spWholeN := ok_wholeN T
  have G__factor : FnOk P w K mg base CX0 2 T.a__factor T.d__factor ["word"] spFactor := ok_factor T
  refine T.F__upper_parts.ok sc__upper_parts (fun vs H Q E h => ?_) (fun cdv A outer s H vs Q E hr h => ?_)
  · obtain ⟨t, q, rfl, _⟩ := h
    rfl
  · obtain ⟨t, q, rfl, ht, hq, k⟩ := h
    have nd := sc__upper_parts.nd
    refine ⟨_, (pss_cons (ps_asg (pe_partition (pv 0) pe_str) (pg_tup rfl (pgs_cons (pg_name (i := 1) nd rfl (Or.inl rfl)) (pgs_cons (pg_name (i := 2) nd rfl (Or.inl rfl)) (pgs_cons (pg_name (i := 3) nd rfl (Or.inl rfl)) pgs_nil)))))
    (pss_cons (ps_if (pt_cmpR op_eq (pv 2) pe_str (nomark _)) (pss_one (ps_ret (pe_tup (pa_cons pe_int (pa_cons (pe_call G_whole_in (hr.mono (by first | decide | omega)) (by rfl) T.m_whole_in T.k_whole_in T.b_whole_in .nil pass0 (pa_cons (pv 1) pa_nil)) pa_nil))))) pss_nil)
    (pss_cons (ps_set (i := 4) nd rfl (Or.inl rfl) (pe_ifExp (pt_cmpR op_eq (pv 3) pe_str (nomark _)) pe_int (pe_call G_whole_in (hr.mono (by first | decide | omega)) (by rfl) T.m_whole_in T.k_whole_in T.b_whole_in .nil pass0 (pa_cons (pe_m1 PySem.F.slot_str_removeprefix PySem.F.type_str_removeprefix mt_removeprefix (pv 3) pe_str) pa_nil))))
    (pss_one (ps_ret (pe_tup (pa_cons (pe_call G__factor (hr.mono (by first | decide | omega)) (by rfl) T.m__factor T.k__factor T.b__factor .nil pass0 (pa_cons (pv 1) pa_nil)) (pa_cons (pv 4) pa_nil)))))))), ?_⟩
    have en : TL.tl (Str.ofString "n") = [110] := by decide
    have ee : TL.tl (Str.ofString "") = [] := by decide
    have lu : (upperS t q).length ≤ sizeLine := by
      have := upper_len (t := t) (q := q) (by unfold Nine at ht; unfold Mid; omega) (by unfold Nine at hq; unfold Mid; omega)
      have := sizeLine_eq
      omega
    by_cases h0 : t = 0
    · have e : upperS t q = nS q := tl_inj (by rw [upper_tl, if_pos h0])
      have no : 110 ∉ TL.tl (upperS t q) := fun m => by
        rw [e] at m
        have := nS_signs _ m
        omega
      refine asg_go ?_
      refine ⟨_, rfl, ⟨_, rfl⟩, _, _, rfl, rfl, by decide, lu, fun p np => ?_⟩
      rw [TL.partition_none (y := Str.ofString "n") en no]
      refine ⟨p, _, rfl, SqT.of upd_same, rfl, _, _, rfl, _, _, rfl, _, _, rfl, rfl, ?_⟩
      dsimp only [gName]
      refine seqif_go (tst_go ?_)
      refine ⟨_, rfl, rfl, _, rfl, ifT (by decide +kernel) ?_⟩
      refine ret_go ?_
      refine ⟨_, rfl, q, by rw [e]; rfl, hq, szL (Nat.le_of_ble_eq_true rfl), fun p2 np2 => ?_⟩
      rw [← h0]
      exact k _ _ ((same_new np).trans (same_new np2)) upd_same
    have e : upperS t q = (⟨(headL t).toArray⟩ : Str) ++ Str.ofString "n" ++ (⟨(tailL q).toArray⟩ : Str) := tl_inj (by
      rw [upper_tl, if_neg h0, TL.tl_append, TL.tl_append, en]
      show _ = (headL t ++ [110]) ++ tailL q
      rw [List.append_assoc]
      rfl)
    have no : 110 ∉ TL.tl (⟨(headL t).toArray⟩ : Str) := fun m => by
      rw [TL.tl_mk] at m
      have := head_signs _ m
      omega
    refine asg_go ?_
    refine ⟨_, rfl, ⟨_, rfl⟩, _, _, rfl, rfl, by decide, lu, fun p np => ?_⟩
    rw [e, TL.partition_app (y := Str.ofString "n") en no]
    refine ⟨p, _, rfl, SqT.of upd_same, rfl, _, _, rfl, _, _, rfl, _, _, rfl, rfl, ?_⟩
    dsimp only [gName]
    refine seqif_go (tst_go ?_)
    refine ⟨_, rfl, rfl, _, rfl, ifF (by decide +kernel) ?_⟩
    dsimp only [tNext]
    have lb : (⟨(tailL q).toArray⟩ : Str).length ≤ sizeLine := by
      have z := congrArg Str.length e
      rw [Str.length_append] at z
      omega
    refine asg_go ?_
    by_cases hq0 : q = 0
    · subst hq0
      refine ⟨_, rfl, rfl, _, rfl, ifT (decide_eq_true (by rw [show (⟨(tailL 0).toArray⟩ : Str) = Str.ofString "" from tl_inj rfl])) ?_⟩
      dsimp only [gName]
      refine ret_go ?_
      refine ⟨_, rfl, t, _, rfl, TL.tl_mk _, ht, h0, _, rfl, szL (Nat.le_of_ble_eq_true rfl), fun p2 np2 => ?_⟩
      exact k _ _ ((same_new np).trans (same_new np2)) upd_same
    have et := plus_tl hq0
    have rp : Txt.removeprefix (⟨(tailL q).toArray⟩ : Str) (Str.ofString "+") = nS q := by
      have ep : TL.tl (Str.ofString "+") = [43] := by decide
      by_cases a : q < 0
      · rw [if_pos a] at et
        rw [rp_miss ep]
        · exact tl_inj et
        · show (tailL q).head? ≠ some 43
          rw [et, signs_neg a]
          simp
      · rw [if_neg a] at et
        exact tl_inj (rp_hit ep (by show tailL q = _; exact et))
    have nz : decide (V.str (⟨(tailL q).toArray⟩ : Str) = V.str (Str.ofString "")) = false := decide_eq_false fun z => by
      injection z with z
      have z : tailL q = [] := congrArg TL.tl z
      rw [et] at z
      split at z
      · exact nS_ne z
      · cases z
    refine ⟨_, rfl, rfl, _, rfl, ifF nz ?_⟩
    refine ⟨_, rfl, ⟨_, rfl⟩, _, _, rfl, rfl, lb, q, by rw [rp]; rfl, hq, ?_⟩
    dsimp only [gName]
    refine ret_go ?_
    refine ⟨_, rfl, t, _, rfl, TL.tl_mk _, ht, h0, _, rfl, szL (Nat.le_of_ble_eq_true rfl), fun p2 np2 => ?_⟩
    exact k _ _ ((same_new np).trans (same_new np2)) upd_same

end
end K55
namespace K55
open PySem PySem.Spec PyProof.Rows L2 Rs
local macro_rules | `(tactic| walk_at "om") => `(tactic| first | omega | (dsimp only; omega))
local macro_rules | `(tactic| walk_at "side") => `(tactic| first | omega | (dsimp only; omega) | decide | (unfold CMul; omega) | (unfold CDiv; omega) | (unfold CPow; omega) | exact wide_div (b := 64) (by omega) (by omega) (by decide) (by decide))
local macro_rules | `(tactic| walk_at "hp") => `(tactic| first | assumption | exact upd_same)
local macro_rules | `(tactic| walk_at "sq") => `(tactic| first | assumption | exact SqL.of (by assumption) | exact SqL.of upd_same)
local macro_rules | `(tactic| walk_at "st") => `(tactic| first
  | refine ⟨_, rfl, ?_⟩
  | (refine ⟨_, _, rfl, rfl, And.intro ?side ?_⟩; (case side => walk_at "side"))
  | refine ⟨_, _, rfl, rfl, ?_⟩
  | (refine' ⟨_, _, _, _, rfl, rfl, SqL.of ?hp, ?atx, ?_⟩; (case hp => walk_at "hp"); (case atx => exact rfl))
  | (refine' ⟨_, _, _, _, rfl, rfl, ?hp, ?atx, ?_⟩; (case hp => walk_at "hp"); (case atx => exact rfl))
  | (refine' ⟨_, _, rfl, Or.inl ?sq, ?_⟩; (case sq => walk_at "sq"))
  | refine Or.inl ⟨_, rfl, ?_⟩
  | refine Or.inr ⟨_, rfl, ?_⟩)
local macro_rules | `(tactic| walk_at "evd") => `(tactic| first
  | exact evd_int
  | exact evd_str
  | exact evd_non
  | exact evd_bl
  | exact evd_nil
  | (refine evd_cons ?_ (fun _ => ?_) <;> walk_at "evd")
  | (refine evd_tup ?_ (Nat.le_of_ble_eq_true rfl); walk_at "evd"))

section
variable {P : Program} {w : World} {K : PySem.W.Frag} {mg : Str → Option Value} {base : Heap}
theorem cutS_tail {x : Str} : TL.tl (cutS x (some 1) none) = (TL.tl x).drop 1 := by
  show (((x.cps.toList.drop (HT.sIx x.length 0 (some 1))).take (HT.sIx x.length x.length none - HT.sIx x.length 0 (some 1)))) = _
  have e : HT.sIx x.length 0 (some 1) = min 1 x.length := HT.sIx_nat x.length 0 1
  have l : (TL.tl x).length = x.length := tl_length x
  have l2 : x.cps.toList.length = x.length := l
  rw [HT.sIx_none, e]
  show (x.cps.toList.drop _).take _ = x.cps.toList.drop 1
  rcases Nat.lt_or_ge 0 x.length with h | h
  · rw [Nat.min_eq_left (by omega), ← l2, ← List.length_drop, List.take_length]
  · have z : x.cps.toList = [] := List.length_eq_zero_iff.mp (by omega)
    rw [z, List.drop_nil, List.drop_nil, List.take_nil]
def spParts : Sp := fun vs H Q _ => ∃ (t q c : Int), vs = [.str (formText t q c)] ∧ FormR t q c ∧ ∀ p H', Same H H' → H' p = some (.tup [.int t, .int q, .int c]) → Q (.ref p) H'
theorem ok_parts (T : Txt K mg) : FnOk P w K mg base CX0 4 T.a__parts T.d__parts ["text"] spParts := by
  have G_whole_in : FnOk P w K mg base CX0 1 T.a_whole_in T.d_whole_in ["word"] spWholeN := ok_wholeN T
  have G__upper_parts : FnOk P w K mg base CX0 3 T.a__upper_parts T.d__upper_parts ["upper"] (spUParts K) := ok_uparts T
  have G__text : FnOk P w K mg base CX0 2 T.a__text T.d__text ["times", "plus", "by"] spFText := ok_ftext T
  refine T.F__parts.ok sc__parts (fun vs H Q E h => ?_) (fun cdv A outer s H vs Q E hr h => ?_)
  · obtain ⟨t, q, c, rfl, _⟩ := h
    rfl
  · obtain ⟨t, q, c, rfl, r, k⟩ := h
    have nd := sc__parts.nd
    refine ⟨_, (pss_cons (ps_set (i := 1) nd rfl (Or.inl rfl) (pv 0))
    (pss_cons (ps_set (i := 2) nd rfl (Or.inl rfl) pe_int)
    (pss_cons (ps_if (pt_val (pe_m1 PySem.F.slot_str_startswith PySem.F.type_str_startswith mt_startswith (pv 0) pe_str)) (pss_cons (ps_asg (pe_partition (pe_slice sl_str (pv 0) (po_some pe_int) po_none) pe_str) (pg_tup rfl (pgs_cons (pg_name (i := 1) nd rfl (Or.inl rfl)) (pgs_cons (pg_name (i := 3) nd rfl (Or.inl rfl)) (pgs_cons (pg_name (i := 4) nd rfl (Or.inl rfl)) pgs_nil)))))
    (pss_one (ps_set (i := 2) nd rfl (Or.inl rfl) (pe_call G_whole_in (hr.mono (by first | decide | omega)) (by rfl) T.m_whole_in T.k_whole_in T.b_whole_in .nil pass0 (pa_cons (pv 4) pa_nil))))) pss_nil)
    (pss_cons (ps_asg (pe_call G__upper_parts (hr.mono (by first | decide | omega)) (by rfl) T.m__upper_parts T.k__upper_parts T.b__upper_parts .nil pass0 (pa_cons (pv 1) pa_nil)) (pg_tup rfl (pgs_cons (pg_name (i := 5) nd rfl (Or.inl rfl)) (pgs_cons (pg_name (i := 6) nd rfl (Or.inl rfl)) pgs_nil))))
    (pss_cons (ps_if (PW.pt (pw_or (pt_cmpR (op_inTD rfl (un65 hr)) pe_non (pe_tup (pa_cons (pv 5) (pa_cons (pv 6) (pa_cons (pv 2) pa_nil)))) (by rfl)) (pw_or1 (pt_cmpR op_ne (pe_call G__text (hr.mono (by first | decide | omega)) (by rfl) T.m__text T.k__text T.b__text .nil pass0 (pa_cons (pv 5) (pa_cons (pv 6) (pa_cons (pv 2) pa_nil)))) (pv 0) (nomark _))))) (pss_one (ps_ret pe_non)) pss_nil)
    (pss_one (ps_ret (pe_tup (pa_cons (pv 5) (pa_cons (pv 6) (pa_cons (pv 2) pa_nil))))))))))), ?_⟩
    refine asg_go ⟨_, rfl, ?_⟩
    dsimp only [gName]
    have t9 : Nine t := r.t1
    have q9 : Nine q := r.q1
    have c9 : Nine c := by have := r.c1; have := r.c2; unfold Nine; omega
    have t1 := r.t1
    have q1 := r.q1
    have c1 := r.c1
    have c2 := r.c2
    have fl := form_len r
    have e9 := sizeLine_eq
    have e40 : TL.tl (Str.ofString "(") = [40] := by decide
    have e41 : TL.tl (Str.ofString ")/") = [41, 47] := by decide
    refine asg_go ?_
    dsimp only [gName, tC]
    refine seq_k (fun σ' H' => ∃ y3 y4, σ' = [some (.str (formText t q c)), some (.str (upperS t q)), some (.int c), y3, y4, none, none] ∧ Same H H') (fun σ' H' hC => ?_) (fun R hR => ?_)
    · obtain ⟨y3, y4, rfl, s1⟩ := hC
      refine ⟨_, rfl, t, q, rfl, t9, q9, fun p H2 s2 hp => ?_⟩
      refine ⟨p, _, rfl, SqT.of hp, rfl, _, _, rfl, _, _, rfl, rfl, ?_⟩
      dsimp only [gName]
      refine seqif_go (or_go (tst_go ?_))
      have sh : SeqAt.shaped (.tuple [.int t, .int q, .int c]) = true := (okD.tuple (k := 0) (ds := [.int t, .int q, .int c]) fun d hd => by
        simp only [List.mem_cons, List.not_mem_nil, or_false] at hd
        rcases hd with rfl | rfl | rfl <;> exact ⟨rfl, Nat.le_refl _⟩).shaped (by decide)
      have sn : SeqAt.shaped .none = true := okD.shaped (k := 0) ⟨rfl, Nat.le_refl _⟩ (by decide)
      refine ⟨_, rfl, _, rfl, _, rfl, szL (Nat.le_of_ble_eq_true rfl), fun p2 np2 => ⟨.none, [.int t, .int q, .int c], .non, .tup (SqT.of upd_same) (.cons (.int _) (.cons (.int _) (.cons (.int _) .nil))), sn, sh, _, rfl, ifF rfl (tst_go ?_)⟩⟩
      refine ⟨_, rfl, _, rfl, _, rfl, t, q, c, rfl, by unfold Mid; omega, by unfold Mid; omega, c1, by unfold Mid; omega, _, rfl, rfl, _, rfl, ifF (by simp) ?_⟩
      dsimp only [tNext]
      refine ret_go ?_
      refine ⟨_, rfl, _, rfl, _, rfl, szL (Nat.le_of_ble_eq_true rfl), fun p3 np3 => ?_⟩
      exact k _ _ (((s1.trans s2).trans (same_new np2)).trans (same_new np3)) upd_same
    by_cases h1 : c = 1
    · have e : formText t q c = upperS t q := if_pos h1
      have sw : Txt.startswith (formText t q c) (Str.ofString "(") = false := by
        rw [e, starts_one e40]
        refine decide_eq_false fun z => ?_
        have m : 40 ∈ TL.tl (upperS t q) := List.mem_of_mem_head? z
        have := upper_signs _ m
        omega
      refine ⟨_, rfl, ⟨_, rfl⟩, _, _, rfl, rfl, _, rfl, ifF sw ?_⟩
      refine hR _ _ ⟨none, none, ?_, Same.refl _⟩
      rw [e, h1]
      rfl
    · have e : formText t q c = Str.ofString "(" ++ (upperS t q ++ (Str.ofString ")/" ++ nS c)) := if_neg h1
      have sw : Txt.startswith (formText t q c) (Str.ofString "(") = true := by
        rw [e, starts_one e40, TL.tl_append, e40]
        rfl
      have cut : cutS (formText t q c) (some 1) none = upperS t q ++ Str.ofString ")/" ++ nS c := tl_inj (by
        have z := cutS_tail (x := formText t q c)
        rw [z, e, TL.tl_append, e40, TL.tl_append, TL.tl_append, TL.tl_append, TL.tl_append, List.append_assoc]
        rfl)
      have no : 41 ∉ TL.tl (upperS t q) := fun m => by
        have := upper_signs _ m
        omega
      refine ⟨_, rfl, ⟨_, rfl⟩, _, _, rfl, rfl, _, rfl, ifT sw ?_⟩
      have lc := cutS_length (formText t q c) (some 1) none
      refine asg_go ?_
      refine ⟨_, rfl, _, rfl, _, rfl, by omega, ⟨_, rfl⟩, _, _, rfl, rfl, by decide, by omega, fun p np => ?_⟩
      rw [cut, TL.partition_app (y := Str.ofString ")/") e41 no]
      refine ⟨p, _, rfl, SqT.of upd_same, rfl, _, _, rfl, _, _, rfl, _, _, rfl, rfl, ?_⟩
      dsimp only [gName]
      exact ⟨_, rfl, c, rfl, c9, hR _ _ ⟨_, _, rfl, same_new np⟩⟩
def spRead (CF : Addr) : Sp := fun vs H Q _ => ∃ (t q c : Int), vs = [.ref CF, .str (formText t q c)] ∧ FormR t q c ∧ ∀ x dx H', Same H H' → H' x = some (.ins CF dx (fldF t q c)) → Q (.ref x) H'
theorem ok_read (T : Txt K mg) : FnOk P w K mg base CX0 5 T.a_Form_read T.d_Form_read ["cls", "text"] (spRead T.c_Form) := by
  have G__parts : FnOk P w K mg base CX0 4 T.a__parts T.d__parts ["text"] spParts := ok_parts T
  have GI_Form : FnOk P w K mg base CX0 2 T.a_Form___init__ T.d_Form___init__ ["self", "times", "plus", "by"] (spFormG T.c_Form) := ok_formG T
  refine T.F_Form_read.ok sc_Form_read (fun vs H Q E h => ?_) (fun cdv A outer s H vs Q E hr h => ?_)
  · obtain ⟨t, q, c, rfl, _⟩ := h
    rfl
  · obtain ⟨t, q, c, rfl, r, k⟩ := h
    have nd := sc_Form_read.nd
    refine ⟨_, (pss_cons (ps_set (i := 2) nd rfl (Or.inl rfl) (pe_call G__parts (hr.mono (by first | decide | omega)) (by rfl) T.m__parts T.k__parts T.b__parts .nil pass0 (pa_cons (pv 1) pa_nil)))
    (pss_cons (ps_if (pt_cmpR op_isN (pv 2) pe_non (nomark _)) (pss_one ps_never) pss_nil)
    (pss_cons (ps_asg (pv 2) (pg_tup rfl (pgs_cons (pg_name (i := 3) nd rfl (Or.inl rfl)) (pgs_cons (pg_name (i := 4) nd rfl (Or.inl rfl)) (pgs_cons (pg_name (i := 5) nd rfl (Or.inl rfl)) pgs_nil)))))
    (pss_one (ps_ret (pe_makeV (i := 0) T.M_Form GI_Form (hr.mono (by first | decide | omega)) rfl (Or.inl rfl) T.b_Form___init__ .nil pass0 (pa_cons (pv 3) (pa_cons (pv 4) (pa_cons (pv 5) pa_nil))))))))), ?_⟩
    have c1 := r.c1
    refine ⟨_, rfl, t, q, c, rfl, r, fun p H1 s1 hp => ?_⟩
    dsimp only [gName]
    refine seqif_go (tst_go ?_)
    refine ⟨_, rfl, rfl, _, rfl, ifF (decide_eq_false (fun z => nomatch z)) ?_⟩
    dsimp only [tNext]
    refine ⟨_, rfl, p, _, rfl, SqT.of hp, rfl, _, _, rfl, _, _, rfl, _, _, rfl, rfl, ?_⟩
    dsimp only [gName]
    refine ret_go ?_
    refine ⟨rfl, ?_⟩
    refine ⟨_, rfl, _, rfl, _, rfl, fun x dx nx ndx ne => ⟨x, dx, t, q, c, rfl, upd_same, c1, rfl, ?_⟩⟩
    exact k x dx _ (s1.trans (same_made nx ndx)) upd_same

end
end K55
namespace K55
open PySem PySem.Spec PyProof.Rows L2 Rs
local macro_rules | `(tactic| walk_at "om") => `(tactic| first | omega | (dsimp only; omega))
local macro_rules | `(tactic| walk_at "side") => `(tactic| first | omega | (dsimp only; omega) | decide | (unfold CMul; omega) | (unfold CDiv; omega) | (unfold CPow; omega) | exact wide_div (b := 64) (by omega) (by omega) (by decide) (by decide))
local macro_rules | `(tactic| walk_at "hp") => `(tactic| first | assumption | exact upd_same)
local macro_rules | `(tactic| walk_at "sq") => `(tactic| first | assumption | exact SqL.of (by assumption) | exact SqL.of upd_same)
local macro_rules | `(tactic| walk_at "st") => `(tactic| first
  | refine ⟨_, rfl, ?_⟩
  | (refine ⟨_, _, rfl, rfl, And.intro ?side ?_⟩; (case side => walk_at "side"))
  | refine ⟨_, _, rfl, rfl, ?_⟩
  | (refine' ⟨_, _, _, _, rfl, rfl, SqL.of ?hp, ?atx, ?_⟩; (case hp => walk_at "hp"); (case atx => exact rfl))
  | (refine' ⟨_, _, _, _, rfl, rfl, ?hp, ?atx, ?_⟩; (case hp => walk_at "hp"); (case atx => exact rfl))
  | (refine' ⟨_, _, rfl, Or.inl ?sq, ?_⟩; (case sq => walk_at "sq"))
  | refine Or.inl ⟨_, rfl, ?_⟩
  | refine Or.inr ⟨_, rfl, ?_⟩)
local macro_rules | `(tactic| walk_at "evd") => `(tactic| first
  | exact evd_int
  | exact evd_str
  | exact evd_non
  | exact evd_bl
  | exact evd_nil
  | (refine evd_cons ?_ (fun _ => ?_) <;> walk_at "evd")
  | (refine evd_tup ?_ (Nat.le_of_ble_eq_true rfl); walk_at "evd"))

section
variable {P : Program} {w : World} {K : PySem.W.Frag} {mg : Str → Option Value} {base : Heap}
theorem rounds_join {d : BD} : roundsText d = Txt.join blank [Str.ofString "rounds", formText d.t d.q d.c] := by
  rw [TL.join_eq]
  unfold roundsText
  show _ = Str.ofString "rounds" ++ blank ++ formText d.t d.q d.c
  refine tl_inj ?_
  rw [TL.tl_append, TL.tl_append, TL.tl_append]
  have e : TL.tl (Str.ofString "rounds ") = TL.tl (Str.ofString "rounds") ++ TL.tl blank := by decide
  rw [e]
theorem rounds_split {d : BD} : Txt.split (roundsText d) blank = [Str.ofString "rounds", formText d.t d.q d.c] := by
  rw [rounds_join]
  refine TL.split_join (s := 32) (S := []) (by decide) (by decide +kernel) (by simp) fun p h m => ?_
  simp only [List.mem_cons, List.not_mem_nil, or_false] at h
  rcases h with h | h <;> subst h
  · exact absurd m (by decide)
  · exact (form_signs _ m).2 rfl
theorem rounds_part {d : BD} : Txt.partition (roundsText d) blank = (Str.ofString "rounds", blank, formText d.t d.q d.c) := by
  have e : roundsText d = Str.ofString "rounds" ++ blank ++ formText d.t d.q d.c := by
    rw [rounds_join, TL.join_eq]
    rfl
  rw [e]
  exact TL.partition_app (s := 32) (S := []) (by decide) (by decide)
theorem lane_part {l : LD} (i : LI l) : Txt.partition (laneText l) blank = (l.w, blank, l.s ++ (blank ++ (formText l.t l.q l.c ++ (blank ++ l.d)))) := by
  rw [lane_eq, ← Str.append_assoc]
  exact TL.partition_app (s := 32) (S := []) (by decide) fun m => (word_signs (.inl i.w) _ m).2 rfl
/-- a line is a block's first row, or a lane's -/
def spRoundsIn (CF : Addr) : Sp := fun vs H Q _ => (∃ d, vs = [.str (roundsText d)] ∧ FormR d.t d.q d.c ∧ ∀ x dx H', Same H H' → H' x = some (.ins CF dx (fldF d.t d.q d.c)) → Q (.ref x) H') ∨
  ∃ l, vs = [.str (laneText l)] ∧ LI l ∧ ∀ H', Same H H' → Q .non H'
theorem ok_rounds_in (T : Txt K mg) : FnOk P w K mg base CX0 6 T.a__rounds_in T.d__rounds_in ["line"] (spRoundsIn T.c_Form) := by
  have R_Form_read : FnR P w K mg base CX0 5 T.a_Form_read (spRead T.c_Form) := fnR (ok_read T) T.b_Form_read
  refine T.F__rounds_in.ok sc__rounds_in (fun vs H Q E h => ?_) (fun cdv A outer s H vs Q E hr h => ?_)
  · rcases h with ⟨d, rfl, _⟩ | ⟨l, rfl, _⟩ <;> rfl
  · have nd := sc__rounds_in.nd
    refine ⟨_, (pss_cons (ps_asg (pe_partition (pv 0) pe_str) (pg_tup rfl (pgs_cons (pg_name (i := 1) nd rfl (Or.inl rfl)) (pgs_cons (pg_name (i := 2) nd rfl (Or.inl rfl)) (pgs_cons (pg_name (i := 3) nd rfl (Or.inl rfl)) pgs_nil)))))
    (pss_cons (ps_if (pt_cmpR op_ne (pv 1) pe_str (nomark _)) (pss_one (ps_ret pe_non)) pss_nil)
    (pss_one (ps_try_thru0 (pss_one (ps_ret (ClX.pe_cmeth (pe_glob rfl T.m_Form (rel_ref _)) T.R_Form T.G_Form_read R_Form_read (hr.mono (by first | decide | omega)) pass0 (pa_cons (pv 3) pa_nil)))))))), ?_⟩
    have e9 := sizeLine_eq
    rcases h with ⟨d, rfl, r, k⟩ | ⟨l, rfl, li, k⟩
    · have ln : (roundsText d).length ≤ 100 := by
        have a := form_len r
        have b : (Str.ofString "rounds ").length = 7 := by decide
        unfold roundsText
        rw [Str.length_append]
        omega
      refine asg_go ?_
      refine ⟨_, rfl, ⟨_, rfl⟩, _, _, rfl, rfl, by decide, by omega, fun p np => ?_⟩
      rw [show Txt.partition (roundsText d) (Str.ofString " ") = _ from rounds_part]
      refine ⟨p, _, rfl, SqT.of upd_same, rfl, _, _, rfl, _, _, rfl, _, _, rfl, rfl, ?_⟩
      dsimp only [gName]
      refine seqif_go (tst_go ?_)
      refine ⟨_, rfl, rfl, _, rfl, ifF (by simp) ?_⟩
      dsimp only [tNext]
      refine ret_go ?_
      refine ⟨rfl, _, rfl, d.t, d.q, d.c, rfl, r, fun x dx H' s' hx => ?_⟩
      exact k x dx H' ((same_new np).trans s') hx
    · have ln := lane_len li
      refine asg_go ?_
      refine ⟨_, rfl, ⟨_, rfl⟩, _, _, rfl, rfl, by decide, by omega, fun p np => ?_⟩
      rw [show Txt.partition (laneText l) (Str.ofString " ") = _ from lane_part li]
      refine ⟨p, _, rfl, SqT.of upd_same, rfl, _, _, rfl, _, _, rfl, _, _, rfl, rfl, ?_⟩
      dsimp only [gName]
      have ne : l.w ≠ Str.ofString "rounds" := fun e => by
        have h := li.w
        rw [e] at h
        exact absurd h (by decide +kernel)
      refine seqif_go (tst_go ?_)
      refine ⟨_, rfl, rfl, _, rfl, ifT ?_ ?_⟩
      · rw [decide_eq_false (fun e => ne (by injection e))]
        rfl
      · exact k _ (same_new np)
def spLaneIn (CL CF : Addr) : Sp := fun vs H Q _ => (∃ d, vs = [.str (roundsText d)] ∧ FormR d.t d.q d.c ∧ ∀ H', Same H H' → Q .non H') ∨
  ∃ l, vs = [.str (laneText l)] ∧ LI l ∧ ∀ u H', Same H H' → LaneO CL CF H' u l → Q u H'
theorem ok_lane_in (T : Txt K mg) : FnOk P w K mg base CX0 6 T.a__lane_in T.d__lane_in ["line"] (spLaneIn T.c_Lane T.c_Form) := by
  have R_Form_read : FnR P w K mg base CX0 5 T.a_Form_read (spRead T.c_Form) := fnR (ok_read T) T.b_Form_read
  have GI_Lane : FnOk P w K mg base CX0 2 T.a_Lane___init__ T.d_Lane___init__ ["self", "way", "sign", "shift", "deed"] (spLaneG T.c_Lane T.c_Form) := ok_laneG T
  refine T.F__lane_in.ok sc__lane_in (fun vs H Q E h => ?_) (fun cdv A outer s H vs Q E hr h => ?_)
  · rcases h with ⟨d, rfl, _⟩ | ⟨l, rfl, _⟩ <;> rfl
  · have nd := sc__lane_in.nd
    refine ⟨_, (pss_cons (ps_set (i := 1) nd rfl (Or.inl rfl) (pe_split (pv 0) pe_str))
    (pss_cons (ps_if (pt_cmpR op_ne (pe_callB call_len_seq (by rfl) T.z_len (by decide +kernel) (pa_cons (pv 1) pa_nil)) pe_int (nomark _)) (pss_one (ps_ret pe_non)) pss_nil)
    (pss_cons (ps_asg (pv 1) (pg_tupL rfl (pgs_cons (pg_name (i := 2) nd rfl (Or.inl rfl)) (pgs_cons (pg_name (i := 3) nd rfl (Or.inl rfl)) (pgs_cons (pg_name (i := 4) nd rfl (Or.inl rfl)) (pgs_cons (pg_name (i := 5) nd rfl (Or.inl rfl)) pgs_nil))))))
    (pss_one (ps_try_thru0 (pss_one (ps_ret (pe_make T.M_Lane GI_Lane (hr.mono (by first | decide | omega)) (by rfl) T.m_Lane T.b_Lane___init__ .nil pass0 (pa_cons (pv 2) (pa_cons (pv 3) (pa_cons (ClX.pe_cmeth (pe_glob rfl T.m_Form (rel_ref _)) T.R_Form T.G_Form_read R_Form_read (hr.mono (by first | decide | omega)) pass0 (pa_cons (pv 4) pa_nil)) (pa_cons (pv 5) pa_nil)))))))))))), ?_⟩
    have e9 := sizeLine_eq
    rcases h with ⟨d, rfl, r, k⟩ | ⟨l, rfl, li, k⟩
    · have ln : (roundsText d).length ≤ 100 := by
        have a := form_len r
        have b : (Str.ofString "rounds ").length = 7 := by decide
        unfold roundsText
        rw [Str.length_append]
        omega
      refine asg_go ?_
      refine ⟨_, rfl, ⟨_, rfl⟩, _, _, rfl, rfl, by decide, by omega, fun p np => ?_⟩
      rw [show Txt.split (roundsText d) (Str.ofString " ") = _ from rounds_split]
      dsimp only [gName]
      refine seqif_go (tst_go ?_)
      refine ⟨_, rfl, p, _, rfl, .inl (SqL.of upd_same), rfl, _, rfl, ifT (by show (!decide (V.int ((2 : Nat) : Int) = V.int 4)) = true; decide) ?_⟩
      exact k _ (same_new np)
    · have ln := lane_len li
      refine asg_go ?_
      refine ⟨_, rfl, ⟨_, rfl⟩, _, _, rfl, rfl, by decide, by omega, fun p np => ?_⟩
      rw [show Txt.split (laneText l) (Str.ofString " ") = _ from lane_split li]
      dsimp only [gName]
      refine seqif_go (tst_go ?_)
      refine ⟨_, rfl, p, _, rfl, .inl (SqL.of upd_same), rfl, _, rfl, ifF (by show (!decide (V.int ((4 : Nat) : Int) = V.int 4)) = false; decide) ?_⟩
      dsimp only [tNext]
      refine asg_go ?_
      refine ⟨_, rfl, p, _, rfl, SqL.of upd_same, rfl, _, _, rfl, _, _, rfl, _, _, rfl, _, _, rfl, rfl, ?_⟩
      dsimp only [gName]
      refine ret_go ?_
      have s0 := same_new (o := .lst (List.map V.str [l.w, l.s, formText l.t l.q l.c, l.d])) np
      refine ⟨_, rfl, _, rfl, rfl, _, rfl, l.t, l.q, l.c, rfl, li.r, fun y dy H1 s1 hy => ?_⟩
      refine ⟨_, rfl, fun x dx nx ndx ne => ⟨x, dx, y, l, rfl, upd_same, li, ⟨dy, same_two nx ndx _ _ hy⟩, rfl, ?_⟩⟩
      rw [upd_upd]
      have s2 : Same H1 (upd (upd H1 dx (.own x)) x (.ins T.c_Lane dx (fldL l y))) := same_two nx ndx
      exact k _ _ ((s0.trans s1).trans s2) ⟨x, dx, y, rfl, upd_same, ⟨dy, s2 _ _ hy⟩, li⟩

end
end K55
namespace K55
open PySem PySem.Spec PyProof.Rows L2 Rs
local macro_rules | `(tactic| walk_at "om") => `(tactic| first | omega | (dsimp only; omega))
local macro_rules | `(tactic| walk_at "side") => `(tactic| first | omega | (dsimp only; omega) | decide | (unfold CMul; omega) | (unfold CDiv; omega) | (unfold CPow; omega) | exact wide_div (b := 64) (by omega) (by omega) (by decide) (by decide))
local macro_rules | `(tactic| walk_at "hp") => `(tactic| first | assumption | exact upd_same)
local macro_rules | `(tactic| walk_at "sq") => `(tactic| first | assumption | exact SqL.of (by assumption) | exact SqL.of upd_same)
local macro_rules | `(tactic| walk_at "st") => `(tactic| first
  | refine ⟨_, rfl, ?_⟩
  | (refine ⟨_, _, rfl, rfl, And.intro ?side ?_⟩; (case side => walk_at "side"))
  | refine ⟨_, _, rfl, rfl, ?_⟩
  | (refine' ⟨_, _, _, _, rfl, rfl, SqL.of ?hp, ?atx, ?_⟩; (case hp => walk_at "hp"); (case atx => exact rfl))
  | (refine' ⟨_, _, _, _, rfl, rfl, ?hp, ?atx, ?_⟩; (case hp => walk_at "hp"); (case atx => exact rfl))
  | (refine' ⟨_, _, rfl, Or.inl ?sq, ?_⟩; (case sq => walk_at "sq"))
  | refine Or.inl ⟨_, rfl, ?_⟩
  | refine Or.inr ⟨_, rfl, ?_⟩)
local macro_rules | `(tactic| walk_at "evd") => `(tactic| first
  | exact evd_int
  | exact evd_str
  | exact evd_non
  | exact evd_bl
  | exact evd_nil
  | (refine evd_cons ?_ (fun _ => ?_) <;> walk_at "evd")
  | (refine evd_tup ?_ (Nat.le_of_ble_eq_true rfl); walk_at "evd"))

section
variable {P : Program} {w : World} {K : PySem.W.Frag} {mg : Str → Option Value} {base : Heap}
/-- one block that is being read: its list of lanes does not stand at F -/
def Entry (CL CF F : Addr) (H : Hp) (v : V) (d : BD) : Prop := ∃ p y L us, v = .ref p ∧ H p = some (.tup [.ref y, .ref L]) ∧ FormO CF H y d.t d.q d.c ∧ L ≠ F ∧ H L = some (.lst us) ∧ AllR (LaneO CL CF H) us d.ls
theorem Entry.same {CL CF F : Addr} {H H' : Hp} {v : V} {d : BD} (h : Entry CL CF F H v d) (s : Same H H') : Entry CL CF F H' v d := by
  obtain ⟨p, y, L, us, e, hp, hy, n, hL, a⟩ := h
  exact ⟨p, y, L, us, e, s _ _ hp, hy.fz (Fz.of_same s), n, s _ _ hL, a.mono fun v l h => h.same s⟩
/-- the list at F is written -/
theorem Entry.setF {CL CF F : Addr} {H : Hp} {v : V} {d : BD} {xs : List V} {o : HO} (h : Entry CL CF F H v d) (e0 : H F = some (.lst xs)) : Entry CL CF F (upd H F o) v d := by
  obtain ⟨p, y, L, us, e, hp, hy, n, hL, a⟩ := h
  have z : Fz H (upd H F o) := Fz.lst e0
  exact ⟨p, y, L, us, e, z _ _ trivial hp, hy.fz z, n, by rw [upd_ne n]; exact hL, a.mono fun v l h => h.fz z⟩
/-- another list is written -/
theorem Entry.setL {CL CF F G : Addr} {H : Hp} {v : V} {d : BD} {xs : List V} {o : HO} (h : Entry CL CF F H v d) (off : Off G H v) (e0 : H G = some (.lst xs)) : Entry CL CF F (upd H G o) v d := by
  obtain ⟨p, y, L, us, rfl, hp, hy, n, hL, a⟩ := h
  obtain ⟨p', f', L', e', hp', nG⟩ := off
  cases e'
  rw [hp] at hp'
  have e2 := Option.some.inj hp'
  injection e2 with e2
  injection e2 with _ e2
  injection e2 with e2 _
  injection e2 with e2
  subst e2
  have z : Fz H (upd H G o) := Fz.lst e0
  exact ⟨p, y, L, us, rfl, z _ _ trivial hp, hy.fz z, n, by rw [upd_ne nG]; exact hL, a.mono fun v l h => h.fz z⟩
theorem AllR.last {α β : Type} {R : α → β → Prop} {as : List α} {bs : List β} (h : AllR R as bs) : as ≠ [] → ∃ as' a bs' b, as = as' ++ [a] ∧ bs = bs' ++ [b] ∧ AllR R as' bs' ∧ R a b := by
  induction h with
  | nil => intro n; exact absurd rfl n
  | cons z r ih =>
    intro _
    cases r with
    | nil => exact ⟨[], _, [], _, rfl, rfl, .nil, z⟩
    | cons z2 r2 =>
      obtain ⟨as', a', bs', b', e1, e2, h1, h2⟩ := ih (by simp)
      exact ⟨_ :: as', a', _ :: bs', b', by rw [e1]; rfl, by rw [e2]; rfl, .cons z h1, h2⟩
theorem lines_ne {d : BD} : blockLines d ≠ [] := by
  unfold blockLines
  simp
def BInv (CL CF : Addr) (H0 : Hp) (ds : List BD) (F : Addr) (i : Nat) (Hc : Hp) : Prop := ∃ vs, Hc F = some (.lst vs) ∧ Same H0 Hc ∧
  ((∃ pre post, ds = pre ++ post ∧ i = (pre.flatMap blockLines).length ∧ AllR (Entry CL CF F Hc) vs pre) ∨
    ∃ pre d post j vp p y L us, ds = pre ++ d :: post ∧ j < d.ls.length ∧ i = (pre.flatMap blockLines).length + 1 + j ∧ vs = vp ++ [.ref p] ∧ AllR (fun v d => Entry CL CF F Hc v d ∧ Off L Hc v) vp pre ∧
      Hc p = some (.tup [.ref y, .ref L]) ∧ FormO CF Hc y d.t d.q d.c ∧ L ≠ F ∧ H0 L = none ∧ Hc L = some (.lst us) ∧ AllR (LaneO CL CF Hc) us (d.ls.take j))
def spBlocksIn (CB CL CF : Addr) : Sp := fun vs H Q _ => ∃ (a : Addr) (ds : List BD), vs = [.ref a] ∧ H a = some (.lst ((ds.flatMap blockLines).map V.str)) ∧ ds ≠ [] ∧ ds.length ≤ 100 ∧ (∀ d ∈ ds, BI d) ∧
  ∀ u bs H', Same H H' → H' u = some (.lst bs) → AllR (BlockO CB CL CF H') bs ds → Q (.ref u) H'
theorem ok_blocks_in (T : Txt K mg) : FnOk P w K mg base CX0 7 T.a__blocks_in T.d__blocks_in ["lines"] (spBlocksIn T.c_Block T.c_Lane T.c_Form) := by
  have G__rounds_in : FnOk P w K mg base CX0 6 T.a__rounds_in T.d__rounds_in ["line"] (spRoundsIn T.c_Form) := ok_rounds_in T
  have G__lane_in : FnOk P w K mg base CX0 6 T.a__lane_in T.d__lane_in ["line"] (spLaneIn T.c_Lane T.c_Form) := ok_lane_in T
  have GI_Block : FnOk P w K mg base CX0 2 T.a_Block___init__ T.d_Block___init__ ["self", "rounds", "lanes"] (spBlockG K T.c_Block T.c_Form T.c_Lane) := ok_blockG T
  refine T.F__blocks_in.ok sc__blocks_in (fun vs H Q E h => ?_) (fun cdv A outer s H vs Q E hr h => ?_)
  · obtain ⟨a, ds, rfl, _⟩ := h
    rfl
  · obtain ⟨a, ds, rfl, ha, ne, dl, bis, k⟩ := h
    have nd := sc__blocks_in.nd
    refine ⟨_, (pss_cons (ps_set (i := 1) nd rfl (Or.inl rfl) (pe_lst pa_nil))
    (pss_cons (ps_for PassesOwn.never rfl (pi_enum (by rfl) T.z_enumerate (pa_cons (pv 0) pa_nil)) (pg_tup rfl (pgs_cons (pg_name (i := 2) nd rfl (Or.inl rfl)) (pgs_cons (pg_name (i := 3) nd rfl (Or.inl rfl)) pgs_nil)))
    (pss_cons (ps_set (i := 4) nd rfl (Or.inl rfl) (pe_call G__rounds_in (hr.mono (by first | decide | omega)) (by rfl) T.m__rounds_in T.k__rounds_in T.b__rounds_in .nil pass0 (pa_cons (pv 3) pa_nil)))
    (pss_cons (ps_set (i := 5) nd rfl (Or.inl rfl) (pe_call G__lane_in (hr.mono (by first | decide | omega)) (by rfl) T.m__lane_in T.k__lane_in T.b__lane_in .nil pass0 (pa_cons (pv 3) pa_nil)))
    (pss_one (ps_if (PW.pt (pw_and (pt_cmpR op_notN (pv 4) pe_non (nomark _)) (pw_and1 (PW.pt (pw_or (pt_cmpR op_eq (pe_callB call_len_seq (by rfl) T.z_len (by decide +kernel) (pa_cons (pv 1) pa_nil)) pe_int (nomark _)) (pw_or1 (pt_cmpR op_gt (pe_callB call_len_seq (by rfl) T.z_len (by decide +kernel) (pa_cons (pe_ix ix_seq (pe_ix ix_seq (pv 1) (pe_un un_neg pe_int) (fun _ _ => rfl)) pe_int (fun _ _ => rfl)) pa_nil)) pe_int (nomark _)))))))) (pss_one (ps_expr (pe_bm PySem.F.plainAttrs_list PySem.F.slot_list_append PySem.F.type_list_append mt_append (pv 1) (pa_cons (pe_tup (pa_cons (pv 4) (pa_cons (pe_lst pa_nil) pa_nil))) pa_nil)))) (pss_one (ps_if (PW.pt (pw_and (pt_cmpR op_notN (pv 5) pe_non (nomark _)) (pw_and1 (pt_cmpR op_gt (pe_callB call_len_seq (by rfl) T.z_len (by decide +kernel) (pa_cons (pv 1) pa_nil)) pe_int (nomark _))))) (pss_one (ps_expr (pe_bm PySem.F.plainAttrs_list PySem.F.slot_list_append PySem.F.type_list_append mt_append (pe_ix ix_seq (pe_ix ix_seq (pv 1) (pe_un un_neg pe_int) (fun _ _ => rfl)) pe_int (fun _ _ => rfl)) (pa_cons (pv 5) pa_nil)))) (pss_one ps_never))))))))
    (pss_cons (ps_if (pt_cmpR op_eq (pe_callB call_len_seq (by rfl) T.z_len (by decide +kernel) (pa_cons (pe_ix ix_seq (pe_ix ix_seq (pv 1) (pe_un un_neg pe_int) (fun _ _ => rfl)) pe_int (fun _ _ => rfl)) pa_nil)) pe_int (nomark _)) (pss_one ps_never) pss_nil)
    (pss_one (ps_ret (pe_lc (own := [("rounds", 4), ("lanes", 6)]) (g := (gTup K 2 (gCons (gName 4) (gCons (gName 6) gNil)))) (by rfl) nd (pi_list (pv 1)) (blkOk_by (N := ["lines", "found", "at", "line", "rounds", "lane", "lanes"]) (sc := defScope s__blocks_in) (own := [("rounds", 4), ("lanes", 6)]) (by decide +kernel)) (fun _ _ _ _ _ => by exact (pg_tup rfl (pgs_cons (pg_name (i := 4) nd rfl (Or.inl rfl)) (pgs_cons (pg_name (i := 6) nd rfl (Or.inl rfl)) pgs_nil)))) (fun _ _ _ _ _ => by exact pts_nil) (fun _ _ _ _ _ => by exact (pe_make T.M_Block GI_Block (hr.mono (by first | decide | omega)) (by rfl) T.m_Block T.b_Block___init__ .nil pass0 (pa_cons (pv 4) (pa_cons (pv 6) pa_nil)))))))))), ?_⟩
    have e9 := sizeLine_eq
    have small := flat_len bis
    have pick1 : ∀ {pre post : List BD} {d : BD}, ds = pre ++ d :: post → (ds.flatMap blockLines)[(pre.flatMap blockLines).length]? = some (roundsText d) := fun {pre post d} e => by
      rw [e, List.flatMap_append, List.getElem?_append_right (Nat.le_refl _), Nat.sub_self, List.flatMap_cons]
      rfl
    have pick2 : ∀ {pre post : List BD} {d : BD} {j : Nat} {l : LD}, ds = pre ++ d :: post → d.ls[j]? = some l → (ds.flatMap blockLines)[(pre.flatMap blockLines).length + 1 + j]? = some (laneText l) := fun {pre post d j l} e hj => by
      have lj := (List.getElem?_eq_some_iff.mp hj).1
      rw [e, List.flatMap_append, List.getElem?_append_right (by omega), show (pre.flatMap blockLines).length + 1 + j - (pre.flatMap blockLines).length = j + 1 by omega, List.flatMap_cons]
      show (roundsText d :: (d.ls.map laneText) ++ _)[j + 1]? = _
      rw [List.cons_append, List.getElem?_cons_succ, List.getElem?_append_left (by rw [List.length_map]; exact lj), List.getElem?_map, hj]
      rfl
    refine ⟨szL (Nat.le_of_ble_eq_true rfl), fun F nF => ?_⟩
    have sF := same_new (o := .lst []) nF
    refine ⟨_, rfl, a, _, rfl, SqL.of (sF _ _ ha), for_it (walk_enum (xs := (ds.flatMap blockLines).map V.str)) (fun i σ Hc => ∃ y2 y3 y4 y5, σ = [some (.ref a), some (.ref F), y2, y3, y4, y5, none] ∧ BInv T.c_Lane T.c_Form H ds F i Hc)
      ⟨none, none, none, none, rfl, [], upd_same, sF, .inl ⟨[], ds, rfl, rfl, .nil⟩⟩ (fun i σ Hc _ hR => ?_) (fun i v σ Hc H1 hi hP hy => ?_) (fun σ Hc hP => ?_)⟩
    · obtain ⟨_, _, _, _, _, _, _, s, _⟩ := hR
      exact SqL.of (s _ _ ha)
    · obtain ⟨y2, y3, y4, y5, rfl, vs, hF, sc, hst⟩ := hP
      obtain ⟨T', v1, v2, rfl, nT, rfl, h1, h2⟩ := hy
      cases h1
      have h2 : ((ds.flatMap blockLines).map V.str)[i]? = some v2 := h2
      rw [List.length_map] at hi
      refine ⟨T', _, rfl, SqT.of upd_same, rfl, _, _, rfl, _, _, rfl, rfl, ?_⟩
      have s1 := same_new (o := .tup [.int (i : Nat), v2]) nT
      generalize upd Hc T' (.tup [.int (i : Nat), v2]) = H1 at s1 ⊢
      dsimp only [gName]
      rcases hst with ⟨pre, post, eds, ei, hvs⟩ | ⟨pre, d, post, j, vp, p, y, L, us, eds, hj, ei, rfl, hvp, hp, hy, nLF, nL, hL, hus⟩
      · obtain ⟨d, post, rfl⟩ : ∃ d post', post = d :: post' := by
          cases post with
          | nil =>
            rw [List.append_nil] at eds
            subst eds
            omega
          | cons d post => exact ⟨d, post, rfl⟩
        have el : v2 = .str (roundsText d) := by
          rw [List.getElem?_map, ei, pick1 eds] at h2
          cases h2
          rfl
        subst el
        have di := bis d (by rw [eds]; exact List.mem_append_right _ (List.mem_cons_self ..))
        have lv := hvs.length
        have lp : pre.length < ds.length := by rw [eds, List.length_append, List.length_cons]; omega
        refine asg_go ?_
        refine ⟨_, rfl, .inl ⟨d, rfl, di.r.r, fun y dy H2 s2 hy => ?_⟩⟩
        dsimp only [gName]
        refine asg_go ?_
        refine ⟨_, rfl, .inl ⟨d, rfl, di.r.r, fun H3 s3 => ?_⟩⟩
        dsimp only [gName]
        have s13 := (s1.trans s2).trans s3
        have hF3 := s13 _ _ hF
        have hvs3 := hvs.mono fun v d h => h.same s13
        have fin : ∀ (L p : Addr), H3 L = none → upd H3 L (.lst []) p = none → BInv T.c_Lane T.c_Form H ds F (i + 1) (upd (upd (upd H3 L (.lst [])) p (.tup [.ref y, .ref L])) F (.lst (vs ++ [.ref p]))) := by
          intro L p nL np
          have t1 := same_new (o := .lst []) nL
          have t2 := same_new (o := .tup [.ref y, .ref L]) np
          have t12 := t1.trans t2
          have hF4 := t12 _ _ hF3
          have nLF : L ≠ F := fun e => by rw [e, hF3] at nL; cases nL
          have sH3 := sc.trans s13
          have nLH : H L = none := sH3.free nL
          have offs : ∀ v d, Entry T.c_Lane T.c_Form F H3 v d → Off L H3 v := fun v d h => by
            obtain ⟨p', y', L', us, e, hp', _, _, hL', _⟩ := h
            exact ⟨p', .ref y', L', e, hp', fun z => by rw [z, nL] at hL'; cases hL'⟩
          have z4 : Fz (upd (upd H3 L (.lst [])) p (.tup [.ref y, .ref L])) (upd (upd (upd H3 L (.lst [])) p (.tup [.ref y, .ref L])) F (.lst (vs ++ [.ref p]))) := Fz.lst hF4
          refine ⟨vs ++ [.ref p], upd_same, same_lst (sH3.trans t12) nF, .inr ⟨pre, d, post, 0, vs, p, y, L, [], eds, di.l0, by omega, rfl, hvs3.mono fun v d h => ⟨(h.same t12).setF hF4, ((offs v d h).fz (Fz.of_same t12)).fz z4⟩, z4 _ _ trivial upd_same, ?_, nLF, nLH, ?_, ?_⟩⟩
          · exact FormO.fz ⟨dy, t12 _ _ (s3 _ _ hy)⟩ z4
          · rw [upd_ne nLF]
            exact t2 _ _ upd_same
          · rw [List.take_zero]
            exact .nil
        refine ifs_go ?_
        refine ⟨_, rfl, rfl, _, rfl, ifT (by rw [decide_eq_false (fun z => nomatch z)]; rfl) ?_⟩
        refine or_go (tst_go ?_)
        refine ⟨_, rfl, F, _, rfl, .inl (SqL.of hF3), rfl, _, rfl, ?_⟩
        by_cases h0 : vs = []
        · subst h0
          refine ifT (by decide) (ifT rfl ?_)
          refine ⟨_, rfl, .inl ⟨rfl, _, SqL.of hF3⟩, _, rfl, szL (Nat.le_of_ble_eq_true rfl), fun L nL => ⟨szL (Nat.le_of_ble_eq_true rfl), fun p np => ⟨F, _, _, rfl, rfl, same_new np _ _ (same_new nL _ _ hF3), szl' (by decide), ?_⟩⟩⟩
          exact ⟨_, _, _, _, rfl, fin L p nL np⟩
        · refine ifF (decide_eq_false fun z => h0 (List.length_eq_zero_iff.mp (by injection z with z; omega))) ?_
          obtain ⟨vp, v0, dp, d0, rfl, rfl, hvp, h00⟩ := hvs3.last h0
          have d0i := bis d0 (by rw [eds]; simp)
          obtain ⟨p0, y0, L0, us0, rfl, hp0, _, _, hL0, hus0⟩ := id h00
          have l0 := hus0.length
          have dl0 := d0i.l0
          refine tst_go ?_
          refine ⟨_, rfl, _, rfl, .inl ⟨F, _, -1, .ref p0, rfl, rfl, SqL.of hF3, atI_last _ _, .inr (.inl ⟨p0, _, 1, .ref L0, rfl, rfl, SqT.of hp0, rfl, L0, _, rfl, .inl (SqL.of hL0), _, _, rfl, rfl, _, rfl, ifT (decide_eq_true (by omega)) ?_⟩)⟩⟩
          refine ⟨_, rfl, .inl ⟨rfl, _, SqL.of hF3⟩, _, rfl, szL (Nat.le_of_ble_eq_true rfl), fun L nL => ⟨szL (Nat.le_of_ble_eq_true rfl), fun p np => ⟨F, _, _, rfl, rfl, same_new np _ _ (same_new nL _ _ hF3), szl' (by omega), ?_⟩⟩⟩
          exact ⟨_, _, _, _, rfl, fin L p nL np⟩
      · obtain ⟨l, hl⟩ : ∃ l, d.ls[j]? = some l := ⟨_, List.getElem?_eq_getElem hj⟩
        have el : v2 = .str (laneText l) := by
          rw [List.getElem?_map, ei, pick2 eds hl] at h2
          cases h2
          rfl
        subst el
        have di := bis d (by rw [eds]; exact List.mem_append_right _ (List.mem_cons_self ..))
        have li := di.li l (List.mem_of_getElem? hl)
        have dl1 := di.l1
        have lus := hus.length
        rw [List.length_take] at lus
        refine asg_go ?_
        refine ⟨_, rfl, .inr ⟨l, rfl, li, fun H2 s2 => ?_⟩⟩
        dsimp only [gName]
        refine asg_go ?_
        refine ⟨_, rfl, .inr ⟨l, rfl, li, fun u H3 s3 hu => ?_⟩⟩
        dsimp only [gName]
        have s13 := (s1.trans s2).trans s3
        have hF3 := s13 _ _ hF
        have hp3 := s13 _ _ hp
        have hL3 := s13 _ _ hL
        obtain ⟨x9, d9, g9, rfl, _⟩ := id hu.ins
        refine ifs_go ?_
        refine ⟨_, rfl, rfl, _, rfl, ifF (by simp) (ifF rfl ?_)⟩
        refine ifs_go ?_
        refine ⟨_, rfl, rfl, _, rfl, ifT (by rw [decide_eq_false (fun z => nomatch z)]; rfl) ?_⟩
        refine tst_go ?_
        refine ⟨_, rfl, F, _, rfl, .inl (SqL.of hF3), _, _, rfl, rfl, _, rfl, ifT (decide_eq_true (by rw [List.length_append, List.length_singleton]; omega)) ?_⟩
        refine ⟨_, rfl, _, rfl, .inl ⟨F, _, -1, .ref p, rfl, rfl, SqL.of hF3, atI_last _ _, .inr (.inl ⟨p, _, 1, .ref L, rfl, rfl, SqT.of hp3, rfl, .inl ⟨rfl, _, SqL.of hL3⟩, _, rfl, L, _, _, rfl, rfl, hL3, szl' (by omega), ?_⟩)⟩⟩
        have zL : Fz H3 (upd H3 L (.lst (us ++ [.ref x9]))) := Fz.lst hL3
        have z13 : Fz Hc H3 := Fz.of_same s13
        have hus4 : AllR (LaneO T.c_Lane T.c_Form (upd H3 L (.lst (us ++ [.ref x9])))) (us ++ [.ref x9]) (d.ls.take (j + 1)) := by
          rw [take_snoc hl]
          exact AllR.snoc (hus.mono fun v l h => (h.fz z13).fz zL) (hu.fz zL)
        have hvp4 : AllR (fun v d => Entry T.c_Lane T.c_Form F (upd H3 L (.lst (us ++ [.ref x9]))) v d ∧ Off L (upd H3 L (.lst (us ++ [.ref x9]))) v) vp pre := hvp.mono fun v d h => ⟨(h.1.same s13).setL (h.2.fz z13) hL3, (h.2.fz z13).fz zL⟩
        have hF4 : upd H3 L (.lst (us ++ [.ref x9])) F = some (.lst (vp ++ [.ref p])) := by
          rw [upd_ne (Ne.symm nLF)]
          exact hF3
        have hp4 : upd H3 L (.lst (us ++ [.ref x9])) p = some (.tup [.ref y, .ref L]) := zL _ _ trivial hp3
        have hy4 := (hy.fz z13).fz zL
        refine ⟨_, _, _, _, rfl, vp ++ [.ref p], hF4, same_lst (sc.trans s13) nL, ?_⟩
        by_cases more : j + 1 < d.ls.length
        · exact .inr ⟨pre, d, post, j + 1, vp, p, y, L, _, eds, more, by omega, rfl, hvp4, hp4, hy4, nLF, nL, upd_same, hus4⟩
        · have ej : j + 1 = d.ls.length := by omega
          rw [ej, List.take_length] at hus4
          refine .inl ⟨pre ++ [d], post, by rw [eds, List.append_assoc]; rfl, ?_, AllR.snoc (hvp4.mono fun v d h => h.1) ⟨p, y, L, _, rfl, hp4, hy4, nLF, upd_same, hus4⟩⟩
          rw [List.flatMap_append, List.length_append, List.flatMap_cons, List.flatMap_nil, List.append_nil]
          unfold blockLines
          rw [List.length_cons, List.length_map]
          unfold blockLines at ei
          omega
    · obtain ⟨y2, y3, y4, y5, rfl, vs, hF, sc, hst⟩ := hP
      rw [List.length_map] at hst
      have whole : AllR (Entry T.c_Lane T.c_Form F Hc) vs ds := by
        rcases hst with ⟨pre, post, eds, ei, hvs⟩ | ⟨pre, d, post, j, vp, p, y, L, us, eds, hj, ei, _⟩
        · cases post with
          | nil =>
            rw [List.append_nil] at eds
            rw [eds]
            exact hvs
          | cons d post =>
            have z : (List.flatMap blockLines ds).length = (List.flatMap blockLines (pre ++ d :: post)).length := by rw [← eds]
            rw [List.flatMap_append, List.length_append, List.flatMap_cons, List.length_append] at z
            have : 0 < (blockLines d).length := List.length_pos_iff.mpr lines_ne
            omega
        · have z := congrArg (fun x => (List.flatMap blockLines x).length) eds
          rw [List.flatMap_append, List.length_append, List.flatMap_cons, List.length_append] at z
          have : (blockLines d).length = d.ls.length + 1 := by
            unfold blockLines
            rw [List.length_cons, List.length_map]
          omega
      have lv := whole.length
      obtain ⟨vp, v0, dp, d0, evs, eds, hvp, h00⟩ := whole.last (fun z => ne (List.length_eq_zero_iff.mp (by rw [← lv, z]; rfl)))
      have d0i := bis d0 (by rw [eds]; simp)
      obtain ⟨p0, y0, L0, us0, rfl, hp0, _, _, hL0, hus0⟩ := id h00
      have l0 := hus0.length
      have dl0 := d0i.l0
      have hF0 : Hc F = some (.lst (vp ++ [.ref p0])) := by rw [← evs]; exact hF
      dsimp only
      refine seqif_go (tst_go ?_)
      refine ⟨_, rfl, _, rfl, .inl ⟨F, _, -1, .ref p0, rfl, rfl, SqL.of hF0, atI_last _ _, .inr (.inl ⟨p0, _, 1, .ref L0, rfl, rfl, SqT.of hp0, rfl, L0, _, rfl, .inl (SqL.of hL0), rfl, _, rfl, ifF (decide_eq_false fun z => ?_) ?_⟩)⟩⟩
      · injection z with z
        omega
      dsimp only [tNext]
      refine ret_go ?_
      refine ⟨_, rfl, F, rfl, ⟨_, SqL.of hF⟩, fun G nG => ?_⟩
      refine lc_list (xs := vs) (fun i Hd => ∃ bs, Hd G = some (.lst bs) ∧ AllR (BlockO T.c_Block T.c_Lane T.c_Form Hd) bs (ds.take i) ∧ Same Hc Hd) ⟨[], upd_same, .nil, same_new nG⟩ (fun i Hd _ hR => by obtain ⟨_, _, _, s⟩ := hR; exact SqL.of (s _ _ hF)) (fun i v Hd hv hP => ?_) (fun Hd hP => ?_)
      · obtain ⟨bs, hGd, hbs, sd⟩ := hP
        obtain ⟨d, ed, hd⟩ := whole.get hv
        obtain ⟨p, y, L, us, rfl, hp, ⟨dy, hy⟩, _, hL, hus⟩ := hd.same sd
        have di := bis d (List.mem_of_getElem? ed)
        have lb := hbs.length
        rw [List.length_take] at lb
        refine ⟨p, _, rfl, SqT.of hp, rfl, _, _, rfl, _, _, rfl, rfl, rfl, ?_⟩
        refine ⟨_, rfl, _, rfl, fun x2 d2 nx nd2 ne2 => ?_⟩
        refine make_block (t := d.t) (q := d.q) (c := d.c) (ls := d.ls) hy (.inl hL) hus di nx nd2 fun H4 s4 bO => ⟨rfl, ?_⟩
        have hG4 := s4 _ _ hGd
        have zz : Fz H4 (upd H4 G (.lst (bs ++ [.ref x2]))) := Fz.lst hG4
        refine ⟨bs, hG4, szl' (by omega), bs ++ [.ref x2], upd_same, ?_, same_lst (sd.trans s4) nG⟩
        rw [take_snoc ed]
        exact AllR.snoc (hbs.mono fun v d h => (h.same s4).fz zz) (bO.fz zz)
      · obtain ⟨bs, hGd, hbs, sd⟩ := hP
        rw [lv, List.take_length] at hbs
        exact k _ bs _ (sc.trans sd) hGd hbs

end
end K55
namespace K55
open PySem PySem.Spec PyProof.Rows L2 Rs
local macro_rules | `(tactic| walk_at "om") => `(tactic| first | omega | (dsimp only; omega))
local macro_rules | `(tactic| walk_at "side") => `(tactic| first | omega | (dsimp only; omega) | decide | (unfold CMul; omega) | (unfold CDiv; omega) | (unfold CPow; omega) | exact wide_div (b := 64) (by omega) (by omega) (by decide) (by decide))
local macro_rules | `(tactic| walk_at "hp") => `(tactic| first | assumption | exact upd_same)
local macro_rules | `(tactic| walk_at "sq") => `(tactic| first | assumption | exact SqL.of (by assumption) | exact SqL.of upd_same)
local macro_rules | `(tactic| walk_at "st") => `(tactic| first
  | refine ⟨_, rfl, ?_⟩
  | (refine ⟨_, _, rfl, rfl, And.intro ?side ?_⟩; (case side => walk_at "side"))
  | refine ⟨_, _, rfl, rfl, ?_⟩
  | (refine' ⟨_, _, _, _, rfl, rfl, SqL.of ?hp, ?atx, ?_⟩; (case hp => walk_at "hp"); (case atx => exact rfl))
  | (refine' ⟨_, _, _, _, rfl, rfl, ?hp, ?atx, ?_⟩; (case hp => walk_at "hp"); (case atx => exact rfl))
  | (refine' ⟨_, _, rfl, Or.inl ?sq, ?_⟩; (case sq => walk_at "sq"))
  | refine Or.inl ⟨_, rfl, ?_⟩
  | refine Or.inr ⟨_, rfl, ?_⟩)
local macro_rules | `(tactic| walk_at "evd") => `(tactic| first
  | exact evd_int
  | exact evd_str
  | exact evd_non
  | exact evd_bl
  | exact evd_nil
  | (refine evd_cons ?_ (fun _ => ?_) <;> walk_at "evd")
  | (refine evd_tup ?_ (Nat.le_of_ble_eq_true rfl); walk_at "evd"))

section
variable {P : Program} {w : World} {K : PySem.W.Frag} {mg : Str → Option Value} {base : Heap}
/-- as PlanO, but the tuple may stand in the written part -/
def PlanT (K : PySem.W.Frag) (CP CB CL CF : Addr) (H : Hp) (v : V) (ds : List BD) : Prop := ∃ x dx tp bs d, v = .ref x ∧ H x = some (.ins CP dx (planF tp d)) ∧ SqT K H tp bs ∧ AllR (BlockO CB CL CF H) bs ds
theorem PlanO.t {CP CB CL CF : Addr} {H : Hp} {v : V} {ds : List BD} (h : PlanO CP CB CL CF H v ds) : PlanT K CP CB CL CF H v ds := by
  obtain ⟨x, dx, tp, bs, d, e, hx, ht, a⟩ := h
  exact ⟨x, dx, tp, bs, d, e, hx, SqT.of ht, a⟩
theorem PlanT.same {CP CB CL CF : Addr} {H H' : Hp} {v : V} {ds : List BD} (h : PlanT K CP CB CL CF H v ds) (s : Same H H') : PlanT K CP CB CL CF H' v ds := by
  obtain ⟨x, dx, tp, bs, d, e, hx, ht, a⟩ := h
  exact ⟨x, dx, tp, bs, d, e, s _ _ hx, Same.seqT s ht, a.mono fun v l h => h.same s⟩
theorem PlanO.same {CP CB CL CF : Addr} {H H' : Hp} {v : V} {ds : List BD} (h : PlanO CP CB CL CF H v ds) (s : Same H H') : PlanO CP CB CL CF H' v ds := h.fz (Fz.of_same s)
theorem sla_tup {K : PySem.W.Frag} {H : Hp} {a : Addr} {xs : List V} {lo hi : Option Int} {Q : VK} (h : H a = some (.tup xs)) (q : ∀ t H', Same H H' → H' t = some (.tup (cutV xs lo hi)) → Q (.ref t) H') : rSlA K (.ref a) lo hi H Q := by
  refine ⟨a, xs, rfl, SqT.of h, fun e => ?_, fun _ p np => q p _ (same_new np) upd_same⟩
  have e2 : cutV xs lo hi = xs := by
    unfold cutV
    rw [e.1, e.2, List.drop_zero, Nat.sub_zero, List.take_length]
  exact q a H (Same.refl _) (by rw [e2]; exact h)
theorem cat_tup {K : PySem.W.Frag} {H : Hp} {a b : Addr} {xs ys : List V} {Q : VK} (ha : H a = some (.tup xs)) (hb : H b = some (.tup ys)) (l : xs.length + ys.length ≤ sizeLine) (q : ∀ t H', Same H H' → H' t = some (.tup (xs ++ ys)) → Q (.ref t) H') : rCatA K (.ref a) (.ref b) H Q := by
  refine ⟨a, b, xs, ys, rfl, rfl, SqT.of ha, SqT.of hb, l, fun e => ?_, fun _ e => ?_, fun _ _ p np => q p _ (same_new np) upd_same⟩
  · refine q b H (Same.refl _) ?_
    rw [e, List.nil_append]
    exact hb
  · refine q a H (Same.refl _) ?_
    rw [e, List.append_nil]
    exact ha
theorem cut_to {xs : List V} {j : Nat} : cutV xs none (some ((j : Nat) : Int)) = xs.take j := by
  unfold cutV
  rw [HT.sIx_none, HT.sIx_nat, Nat.sub_zero, List.drop_zero, ← List.take_eq_take_min]
theorem cut_from {xs : List V} {j : Nat} (h : j ≤ xs.length) : cutV xs (some ((j : Nat) : Int)) none = xs.drop j := by
  unfold cutV
  rw [HT.sIx_none, HT.sIx_nat, Nat.min_eq_left h, ← List.length_drop, List.take_length]
theorem AllR.take {α β : Type} {R : α → β → Prop} {as : List α} {bs : List β} (h : AllR R as bs) : ∀ n, AllR R (as.take n) (bs.take n) := by
  induction h with
  | nil => intro n; rw [List.take_nil, List.take_nil]; exact .nil
  | cons z _ ih =>
    intro n
    cases n with
    | zero => exact .nil
    | succ n => exact .cons z (ih n)
theorem AllR.drop {α β : Type} {R : α → β → Prop} {as : List α} {bs : List β} (h : AllR R as bs) : ∀ n, AllR R (as.drop n) (bs.drop n) := by
  induction h with
  | nil => intro n; rw [List.drop_nil, List.drop_nil]; exact .nil
  | cons z r ih =>
    intro n
    cases n with
    | zero => exact .cons z r
    | succ n => exact ih n
theorem AllR.append {α β : Type} {R : α → β → Prop} {as as' : List α} {bs bs' : List β} (h : AllR R as bs) (h' : AllR R as' bs') : AllR R (as ++ as') (bs ++ bs') := by
  induction h with
  | nil => exact h'
  | cons z _ ih => exact .cons z ih

theorem BlockO.inj {CB CL CF : Addr} {H : Hp} {v : V} {d d' : BD} (h : BlockO CB CL CF H v d) (h' : BlockO CB CL CF H v d') : d = d' := by
  obtain ⟨x, dx, y, tp, us, rfl, hx, hy, ht, ha, _⟩ := h
  obtain ⟨x', dx', y', tp', us', e, hx', hy', ht', ha', _⟩ := h'
  cases e
  rw [hx] at hx'
  have e := Option.some.inj hx'
  injection e with _ _ e
  rw [fldB_eq, fldB_eq] at e
  simp only [List.cons.injEq, Prod.mk.injEq, V.ref.injEq, true_and, and_true] at e
  obtain ⟨e1, e2⟩ := e
  subst e1 e2
  obtain ⟨f1, f2, f3⟩ := hy.inj hy'
  rw [ht] at ht'
  have e := Option.some.inj ht'
  injection e with e
  subst e
  have f4 := AllR.fn (fun _ _ _ x y => x.inj y) ha ha'
  cases d
  cases d'
  simp only at f1 f2 f3 f4
  subst f1 f2 f3 f4
  rfl
def SB (CB CL CF : Addr) (a b : Addr) (r : Bool) (H : Hp) : Prop := ∃ l l', BlockO CB CL CF H (.ref a) l ∧ BlockO CB CL CF H (.ref b) l' ∧ r = decide (l = l')
theorem SB.mon {CB CL CF : Addr} (a b : Addr) (r : Bool) (H H' : Hp) (e : Ext H H') (h : SB CB CL CF a b r H) : SB CB CL CF a b r H' := by
  obtain ⟨l, l', h1, h2, h3⟩ := h
  exact ⟨l, l', h1.same e, h2.same e, h3⟩
theorem SB.ask {CB CL CF : Addr} (a b : Addr) (r : Bool) (H : Hp) (h : SB CB CL CF a b r H) : spBEq K CB CL CF [.ref a, .ref b] H (fun v H' => v = .bl r ∧ Ext H H') E0 := by
  obtain ⟨l, l', h1, h2, rfl⟩ := h
  exact ⟨_, _, l, rfl, h1, .inl ⟨l', h2, fun H' s => ⟨rfl, s⟩⟩⟩
theorem SB.tup {CB CL CF : Addr} {H : Hp} {p p' : Addr} {us us' : List V} {ls ls' : List BD} (h1 : SqT K H p us) (h2 : SqT K H p' us') (a1 : AllR (BlockO CB CL CF H) us ls) (a2 : AllR (BlockO CB CL CF H) us' ls') (own : p = p' → ls = ls') : DTupB K (DInsB CB (SB CB CL CF)) (.ref p) (.ref p') (decide (ls = ls')) H := by
  refine ⟨p, p', us, us', rfl, rfl, h1, h2, ⟨fun i => decide (ls[i]? = ls'[i]?), fun i x y ex ey => ?_, ?_⟩, fun e => decide_eq_true (own e)⟩
  · obtain ⟨l, el, hl⟩ := a1.get ex
    obtain ⟨l', el', hl'⟩ := a2.get ey
    obtain ⟨z, dz, gs, rfl, hz⟩ := hl.ins
    obtain ⟨z', dz', gs', rfl, hz'⟩ := hl'.ins
    refine ⟨z, z', dz, dz', gs, gs', rfl, rfl, hz, hz', ⟨l, l', hl, hl', ?_⟩, fun e => ?_⟩
    · simp only [el, el', Option.some.injEq]
    · subst e
      have e := hl.inj hl'
      simp only [el, el', e, decide_true]
  · rw [decide_eq_true_eq, a1.length, a2.length]
    constructor
    · intro e
      subst e
      exact ⟨rfl, fun i _ _ => by simp only [decide_true]⟩
    · rintro ⟨e, all⟩
      refine List.ext_getElem? fun i => ?_
      rcases Nat.lt_or_ge i ls.length with c | c
      · exact of_decide_eq_true (all i c (by omega))
      · rw [List.getElem?_eq_none c, List.getElem?_eq_none (by omega)]
def spPEq (K : PySem.W.Frag) (CP CB CL CF : Addr) : Sp := fun vs H Q _ => ∃ (u v : V), vs = [u, v] ∧
  ((∃ ds, PlanO CP CB CL CF H u ds ∧ ((∃ ds', PlanO CP CB CL CF H v ds' ∧ ∀ H', Same H H' → Q (.bl (decide (ds = ds'))) H') ∨ ∃ t, TyX K H v t ∧ PySem.W.kitOne K t (.ref CP) = some false ∧ Q (.bl false) H)) ∨
   (PlanT K CP CB CL CF H u [] ∧ PlanT K CP CB CL CF H v [] ∧ ∀ H', Same H H' → Q (.bl true) H'))
theorem ok_peq (T : Txt K mg) : FnOk P w K mg base CX0 7 T.a_Plan___eq__ T.d_Plan___eq__ ["self", "other"] (spPEq K T.c_Plan T.c_Block T.c_Lane T.c_Form) := by
  have R_beq : FnR P w K mg base CX0 5 T.a_Block___eq__ (spBEq K T.c_Block T.c_Lane T.c_Form) := fnR (ok_beq T) T.b_Block___eq__
  refine T.F_Plan___eq__.ok sc_Plan___eq__ (fun vs H Q E h => ?_) (fun cdv A outer s H vs Q E hr h => ?_)
  · obtain ⟨u, v, rfl, _⟩ := h
    rfl
  · obtain ⟨u, v, rfl, hv⟩ := h
    have nd := sc_Plan___eq__.nd
    refine ⟨_, (pss_one (ps_ret (pe_and (pe_callB call_isi (by rfl) T.z_isinstance (by decide +kernel) (pa_cons (pv 1) (pa_cons (pe_glob rfl T.m_Plan (rel_ref _)) pa_nil))) (pe_one (pe_cmpR (op_eqB (rcB_tup (monB_ins SB.mon) (RcB.eqB (rcB_ins T.O_Block R_beq pass0 SB.ask) refs)) (hr.mono (by decide))) (pe_fld (pv 0) rfl) (pe_fld (pv 1) rfl) (nomark _)))))), ?_⟩
    rcases hv with ⟨ds, ⟨x, dx, tp, bs, d, rfl, hx, ht, ab⟩, hv⟩ | ⟨⟨x, dx, tp, bs, d, rfl, hx, ht, ab⟩, ⟨x', dx', tp', bs', d', rfl, hx', ht', ab'⟩, k⟩
    · rcases hv with ⟨ds', ⟨x', dx', tp', bs', d', rfl, hx', ht', ab'⟩, k⟩ | ⟨t, ty, kt, k⟩
      · refine ⟨_, rfl, _, _, _, _, _, rfl, .own _, T.I_Plan.ty T.C_Plan hx', kit_self, _, rfl, ifT rfl ?_⟩
        refine ⟨_, rfl, x, _, dx, _, _, rfl, hx, T.C_Plan, T.n_Plan_blocks, rfl, _, rfl, x', _, dx', _, _, rfl, hx', T.C_Plan, T.n_Plan_blocks, rfl, decide (ds = ds'), SB.tup (SqT.of ht) (SqT.of ht') ab ab' (fun e => ?_), fun H' e => k H' e⟩
        subst e
        rw [ht] at ht'
        have e := Option.some.inj ht'
        injection e with e
        subst e
        exact AllR.fn (fun _ _ _ x y => x.inj y) ab ab'
      · exact ⟨_, rfl, _, _, _, _, _, rfl, .own _, ty, kt, _, rfl, ifF rfl k⟩
    · refine ⟨_, rfl, _, _, _, _, _, rfl, .own _, T.I_Plan.ty T.C_Plan hx', kit_self, _, rfl, ifT rfl ?_⟩
      exact ⟨_, rfl, x, _, dx, _, _, rfl, hx, T.C_Plan, T.n_Plan_blocks, rfl, _, rfl, x', _, dx', _, _, rfl, hx', T.C_Plan, T.n_Plan_blocks, rfl, decide (([] : List BD) = []), SB.tup ht ht' ab ab' (fun _ => rfl), fun H' e => k H' e⟩
/-! text of a plan -/
theorem joinS_append {y : Str} : ∀ {xs zs : List Str}, xs ≠ [] → zs ≠ [] → Str.join y (xs ++ zs) = Str.join y xs ++ y ++ Str.join y zs
  | [], _, h, _ => absurd rfl h
  | [x], [], _, h => absurd rfl h
  | [x], z :: zs, _, _ => rfl
  | x :: x2 :: xs, zs, _, h => by
    show x ++ y ++ Str.join y ((x2 :: xs) ++ zs) = (x ++ y ++ Str.join y (x2 :: xs)) ++ y ++ Str.join y zs
    rw [joinS_append (xs := x2 :: xs) (by simp) h]
    simp only [Str.append_assoc]
theorem plan_join : ∀ ds : List BD, Txt.join nl (ds.map blockText) = planText ds
  | [] => rfl
  | [d] => by
    rw [plan_one, TL.join_eq]
    rfl
  | d :: d2 :: ds => by
    have ih := plan_join (d2 :: ds)
    unfold planText at ih ⊢
    rw [TL.join_eq] at ih ⊢
    rw [TL.join_eq] at ih ⊢
    rw [List.flatMap_cons, joinS_append lines_ne (by rw [List.flatMap_cons]; exact fun e => lines_ne (List.append_eq_nil_iff.mp e).1), ← ih]
    show blockText d ++ nl ++ _ = _
    unfold blockText
    rw [TL.join_eq]
theorem blockText_len {d : BD} (i : BI d) : (blockText d).length ≤ 7000 := by
  have a := join_len (y := nl) (xs := blockLines d)
  have b := sum_le (fun x h => line_len i h)
  have c := lines_len i
  have e : nl.length = 1 := by decide
  rw [e] at a
  show (Txt.join nl (blockLines d)).length ≤ _
  omega
def spPStr (K : PySem.W.Frag) (CP CB CL CF : Addr) : Sp := fun vs H Q _ => ∃ (u : V) (ds : List BD), vs = [u] ∧ PlanT K CP CB CL CF H u ds ∧ ds.length ≤ 100 ∧ ∀ H', Same H H' → Q (.str (planText ds)) H'
theorem ok_pstr (T : Txt K mg) : FnOk P w K mg base CX0 11 T.a_Plan___str__ T.d_Plan___str__ ["self"] (spPStr K T.c_Plan T.c_Block T.c_Lane T.c_Form) := by
  have R_bstr : FnR P w K mg base CX0 8 T.a_Block___str__ (spBStr T.c_Block T.c_Lane T.c_Form) := fnR (ok_bstr T) T.b_Block___str__
  refine T.F_Plan___str__.ok sc_Plan___str__ (fun vs H Q E h => ?_) (fun cdv A outer s H vs Q E hr h => ?_)
  · obtain ⟨u, l, rfl, _⟩ := h
    rfl
  · obtain ⟨u, ds, rfl, ⟨x, dx, tp, bs, d, rfl, hx, ht, ab⟩, hl, k⟩ := h
    have nd := sc_Plan___str__.nd
    refine ⟨_, (pss_one (ps_ret (pe_join pe_str (pe_lc (own := [("block", 1)]) (g := (gName 1)) (by rfl) nd (pi_tup (pe_fld (pv 0) rfl)) (blkOk_by (N := ["self", "block"]) (sc := defScope s_Plan___str__) (own := [("block", 1)]) (by decide +kernel)) (fun _ _ _ _ _ => by exact (pg_name (i := 1) nd rfl (Or.inl rfl))) (fun _ _ _ _ _ => by exact pts_nil) (fun _ _ _ _ _ => by exact (pe_callTy (call_strO T.M_Block___str__ R_bstr (hr.mono (by decide)) pass0) (by rfl) T.z_str (by decide +kernel) (pa_cons (pv 1) pa_nil))))))), ?_⟩
    have lb := ab.length
    have bis : ∀ d ∈ ds, BI d := by
      intro d hd
      obtain ⟨i, e⟩ := List.getElem?_of_mem hd
      have hi := (List.getElem?_eq_some_iff.mp e).1
      obtain ⟨d', e', _, _, _, _, _, _, _, _, _, _, bi⟩ := ab.get (List.getElem?_eq_getElem (show i < bs.length by omega))
      rw [e] at e'
      cases e'
      exact bi
    refine ret_go ?_
    refine ⟨⟨_, rfl⟩, ?_⟩
    refine ⟨_, rfl, x, _, dx, _, _, rfl, hx, T.C_Plan, T.n_Plan_blocks, rfl, tp, rfl, ⟨bs, ht⟩, fun D hD => ?_⟩
    refine lc_tup (xs := bs) (fun i Hc => Hc D = some (.lst (((ds.map blockText).take i).map V.str)) ∧ Same H Hc) ⟨by rw [upd_same, List.take_zero]; rfl, same_new hD⟩ (fun i Hc _ hP => Same.seqT hP.2 ht) (fun i y Hc hy hP => ?_) (fun Hc hP => ?_)
    · obtain ⟨hDc, sc⟩ := hP
      obtain ⟨l, el, hl2⟩ := ab.get hy
      have hl2 := hl2.same sc
      obtain ⟨z, dz2, gs, rfl, hz2⟩ := hl2.ins
      have hn := (List.getElem?_eq_some_iff.mp hy).1
      refine ⟨rfl, _, rfl, z, dz2, gs, rfl, hz2, _, l, rfl, hl2, fun H3 s3 => ⟨_, rfl, ?_⟩⟩
      have eg : (ds.map blockText)[i]? = some (blockText l) := by
        rw [List.getElem?_map, el]
        rfl
      exact ⟨_, s3 _ _ hDc, szl (by rw [List.length_map, List.length_take, List.length_map]; omega), by rw [upd_same, take_snoc eg, List.map_append]; rfl, same_lst (sc.trans s3) hD⟩
    · obtain ⟨hDc, sc⟩ := hP
      rw [lb, show ds.length = (ds.map blockText).length by rw [List.length_map], List.take_length] at hDc
      have sm : ((ds.map blockText).map fun x => x.length).sum + (ds.map blockText).length * nl.length ≤ 16777216 := by
        have a := sum_le (m := 7000) (xs := ds.map blockText) (fun x hx => by
          obtain ⟨d, hd, rfl⟩ := List.mem_map.mp hx
          exact blockText_len (bis d hd))
        have c : nl.length = 1 := by decide
        rw [List.length_map] at a ⊢
        rw [c]
        omega
      refine ⟨nl, D, _, rfl, rfl, .inl (SqL.of hDc), sm, ?_⟩
      rw [plan_join]
      exact k _ sc

theorem lane_head {l : LD} (i : LI l) : (TL.tl (laneText l)).head? = some 117 ∨ (TL.tl (laneText l)).head? = some 100 := by
  have h := i.w
  unfold ways at h
  simp only [List.mem_cons, List.not_mem_nil, or_false] at h
  rw [lane_eq, TL.tl_append]
  have e1 : TL.tl (Str.ofString "up") = [117, 112] := by decide
  have e2 : TL.tl (Str.ofString "down") = [100, 111, 119, 110] := by decide
  rcases h with h | h
  · left
    rw [h, e1]
    rfl
  · right
    rw [h, e2]
    rfl
theorem rounds_head {d : BD} : (TL.tl (roundsText d)).head? = some 114 := by
  unfold roundsText
  have e1 : TL.tl (Str.ofString "rounds ") = [114, 111, 117, 110, 100, 115, 32] := by decide
  rw [TL.tl_append, e1]
  rfl
theorem lane_ne_rounds {l : LD} {d : BD} (i : LI l) : laneText l ≠ roundsText d := fun e => by
  have h := lane_head i
  rw [e, rounds_head] at h
  rcases h with h | h <;> cases h
/-- nothing, or rows that begin with a block's -/
def Rows (R : List Str) : Prop := R = [] ∨ ∃ d T, R = roundsText d :: T
theorem flat_rows : ∀ ds : List BD, Rows (ds.flatMap blockLines)
  | [] => .inl rfl
  | d :: ds => .inr ⟨d, d.ls.map laneText ++ ds.flatMap blockLines, by rw [List.flatMap_cons]; rfl⟩
theorem lanes_cut : ∀ {ls ls' : List LD} {R R' : List Str}, (∀ l ∈ ls, LI l) → (∀ l ∈ ls', LI l) → Rows R → Rows R' → ls.map laneText ++ R = ls'.map laneText ++ R' → ls = ls' ∧ R = R'
  | [], [], _, _, _, _, _, _, e => ⟨rfl, e⟩
  | [], l :: ls, R, R', _, h', r, _, e => by
    rcases r with r | ⟨d, T, r⟩
    · subst r; cases e
    · subst r
      injection e with e _
      exact absurd e.symm (lane_ne_rounds (h' l (List.mem_cons_self ..)))
  | l :: ls, [], R, R', h, _, _, r, e => by
    rcases r with r | ⟨d, T, r⟩
    · subst r; cases e
    · subst r
      injection e with e _
      exact absurd e (lane_ne_rounds (h l (List.mem_cons_self ..)))
  | l :: ls, l' :: ls', R, R', h, h', r, r', e => by
    rw [List.map_cons, List.map_cons] at e
    injection e with e1 e2
    obtain ⟨a, b⟩ := lanes_cut (fun z hz => h z (List.mem_cons_of_mem _ hz)) (fun z hz => h' z (List.mem_cons_of_mem _ hz)) r r' e2
    exact ⟨by rw [lane_inj (h l (List.mem_cons_self ..)) (h' l' (List.mem_cons_self ..)) e1, a], b⟩
theorem flat_inj : ∀ {ds ds' : List BD}, (∀ d ∈ ds, BI d) → (∀ d ∈ ds', BI d) → ds.flatMap blockLines = ds'.flatMap blockLines → ds = ds'
  | [], [], _, _, _ => rfl
  | [], d :: ds, _, _, e => by
    rw [List.flatMap_cons] at e
    cases e
  | d :: ds, [], _, _, e => by
    rw [List.flatMap_cons] at e
    cases e
  | d :: ds, d' :: ds', h, h', e => by
    rw [List.flatMap_cons, List.flatMap_cons] at e
    have i := h d (List.mem_cons_self ..)
    have i' := h' d' (List.mem_cons_self ..)
    injection e with e1 e2
    obtain ⟨a, b⟩ := lanes_cut i.li i'.li (flat_rows ds) (flat_rows ds') e2
    obtain ⟨f1, f2, f3⟩ := rounds_inj i i' e1
    have g := flat_inj (fun z hz => h z (List.mem_cons_of_mem _ hz)) (fun z hz => h' z (List.mem_cons_of_mem _ hz)) b
    cases d
    cases d'
    simp only at a f1 f2 f3
    subst a f1 f2 f3 g
    rfl
theorem flat_no_nl {ds : List BD} (h : ∀ d ∈ ds, BI d) : ∀ p ∈ ds.flatMap blockLines, 10 ∉ TL.tl p := fun p hp => by
  obtain ⟨d, hd, hp⟩ := List.mem_flatMap.mp hp
  exact line_no_nl (h d hd) p hp
theorem plan_split {ds : List BD} (h : ∀ d ∈ ds, BI d) (ne : ds ≠ []) : Txt.split (planText ds) nl = ds.flatMap blockLines := by
  refine TL.split_join (s := 10) (S := []) (by decide) (by decide +kernel) ?_ (flat_no_nl h)
  cases ds with
  | nil => exact absurd rfl ne
  | cons d ds =>
    rw [List.flatMap_cons]
    exact fun e => lines_ne (List.append_eq_nil_iff.mp e).1
theorem plan_empty {ds : List BD} (h : ∀ d ∈ ds, BI d) (ne : ds ≠ []) : planText ds ≠ planText [] := fun e => by
  have a := plan_split h ne
  rw [e] at a
  have z : Txt.split (planText []) nl = [Str.empty] := TL.split_join (parts := [Str.empty]) (s := 10) (S := []) (by decide) (by decide +kernel) (by simp) (fun p hp => by
    rw [List.mem_singleton] at hp
    subst hp
    decide)
  rw [z] at a
  cases ds with
  | nil => exact ne rfl
  | cons d ds =>
    have i := h d (List.mem_cons_self ..)
    have l := congrArg List.length a
    rw [List.flatMap_cons, List.length_append] at l
    unfold blockLines at l
    have := i.l0
    simp only [List.length_cons, List.length_map, List.length_nil] at l
    omega
theorem plan_inj {ds ds' : List BD} (h : ∀ d ∈ ds, BI d) (h' : ∀ d ∈ ds', BI d) (e : planText ds = planText ds') : ds = ds' := by
  by_cases n : ds = []
  · subst n
    by_cases n' : ds' = []
    · exact n'.symm
    · exact absurd e.symm (plan_empty h' n')
  · by_cases n' : ds' = []
    · subst n'
      exact absurd e (plan_empty h n)
    · have a := plan_split h n
      rw [e, plan_split h' n'] at a
      exact (flat_inj h' h a).symm

def spFCall (C : Addr) : Sp := fun vs H Q _ => ∃ (x : Addr) (t q c n : Int), vs = [.ref x, .int n] ∧ FormO C H x t q c ∧ CMul t n ∧ 1 ≤ c ∧ c < 1073741824 ∧ Q (.int ((t * n + q).fdiv c)) H
theorem ok_fcall (T : Txt K mg) : FnOk P w K mg base CX0 1 T.a_Form___call__ T.d_Form___call__ ["self", "n"] (spFCall T.c_Form) := by
  refine T.F_Form___call__.ok sc_Form___call__ (fun vs H Q E h => ?_) (fun cdv A outer s H vs Q E hr h => ?_)
  · obtain ⟨x, t, q, c, n, rfl, _⟩ := h
    rfl
  · obtain ⟨x, t, q, c, n, rfl, ⟨dx, hx⟩, cm, c1, c2, k⟩ := h
    have nd := sc_Form___call__.nd
    refine ⟨_, (pss_one (ps_ret (pe_op op_fdivN (pe_op op_add (pe_op op_mul (pe_fld (pv 0) rfl) (pv 1)) (pe_fld (pv 0) rfl)) (pe_fld (pv 0) rfl)))), ?_⟩
    refine ⟨_, rfl, x, _, dx, _, _, rfl, hx, T.C_Form, T.n_Form_times, rfl, _, rfl, t, n, rfl, rfl, cm, _, rfl, x, _, dx, _, _, rfl, hx, T.C_Form, T.n_Form_plus, rfl, t * n, q, rfl, rfl, _, rfl, x, _, dx, _, _, rfl, hx, T.C_Form, T.n_Form_by, rfl, ?_⟩
    exact ⟨_, c, rfl, rfl, ⟨by omega, by omega⟩, k⟩

/-- a tuple; without items it may be the written one -/
def TupE (K : PySem.W.Frag) (H : Hp) (a : Addr) (bs : List V) : Prop := H a = some (.tup bs) ∨ (bs = [] ∧ SqT K H a [])
theorem TupE.same {H H' : Hp} {a : Addr} {bs : List V} (h : TupE K H a bs) (s : Same H H') : TupE K H' a bs := h.imp (s _ _) fun h => ⟨h.1, Same.seqT s h.2⟩
theorem TupE.t {H : Hp} {a : Addr} {bs : List V} (h : TupE K H a bs) : SqT K H a bs := by
  rcases h with h | ⟨rfl, h⟩
  · exact SqT.of h
  · exact h
/-- a plan's object; without blocks its tuple may be the written one -/
def PlanE (K : PySem.W.Frag) (CP CB CL CF : Addr) (H : Hp) (v : V) (ds : List BD) : Prop := ∃ x dx tp bs d, v = .ref x ∧ H x = some (.ins CP dx (planF tp d)) ∧ TupE K H tp bs ∧ AllR (BlockO CB CL CF H) bs ds
theorem PlanE.same {CP CB CL CF : Addr} {H H' : Hp} {v : V} {ds : List BD} (h : PlanE K CP CB CL CF H v ds) (s : Same H H') : PlanE K CP CB CL CF H' v ds := by
  obtain ⟨x, dx, tp, bs, d, e, hx, ht, a⟩ := h
  exact ⟨x, dx, tp, bs, d, e, s _ _ hx, ht.same s, a.mono fun v l h => h.same s⟩
theorem PlanE.t {CP CB CL CF : Addr} {H : Hp} {v : V} {ds : List BD} (h : PlanE K CP CB CL CF H v ds) : PlanT K CP CB CL CF H v ds := by
  obtain ⟨x, dx, tp, bs, d, e, hx, ht, a⟩ := h
  exact ⟨x, dx, tp, bs, d, e, hx, ht.t, a⟩
theorem PlanO.e {CP CB CL CF : Addr} {H : Hp} {v : V} {ds : List BD} (h : PlanO CP CB CL CF H v ds) : PlanE K CP CB CL CF H v ds := by
  obtain ⟨x, dx, tp, bs, d, e, hx, ht, a⟩ := h
  exact ⟨x, dx, tp, bs, d, e, hx, .inl ht, a⟩
theorem PlanE.two {CP CB CL CF : Addr} {H : Hp} {v : V} {ds : List BD} (h : PlanE K CP CB CL CF H v ds) : PlanO CP CB CL CF H v ds ∨ (ds = [] ∧ PlanT K CP CB CL CF H v []) := by
  obtain ⟨x, dx, tp, bs, d, e, hx, ht, a⟩ := h
  rcases ht with ht | ⟨rfl, ht⟩
  · exact .inl ⟨x, dx, tp, bs, d, e, hx, ht, a⟩
  · cases a
    exact .inr ⟨rfl, x, dx, tp, [], d, e, hx, ht, .nil⟩
theorem peq_same {CP CB CL CF : Addr} {H : Hp} {u v : V} {ds : List BD} {Q : VK} {E : XK} (h1 : PlanE K CP CB CL CF H u ds) (h2 : PlanE K CP CB CL CF H v ds) (k : ∀ H', Same H H' → Q (.bl true) H') : spPEq K CP CB CL CF [u, v] H Q E := by
  refine ⟨u, v, rfl, ?_⟩
  rcases h1.two with h3 | ⟨rfl, h3⟩
  · rcases h2.two with h4 | ⟨rfl, h4⟩
    · exact .inl ⟨ds, h3, .inl ⟨ds, h4, fun H' s => by rw [decide_eq_true rfl]; exact k H' s⟩⟩
    · exact .inr ⟨h3.t, h4, k⟩
  · exact .inr ⟨h3, h2.t, k⟩
theorem make_plan {CP CB CL CF : Addr} {H : Hp} {x dx a : Addr} {bs : List V} {ds : List BD} {Q : VK} {E : XK} (ha : H a = some (.lst bs) ∨ H a = some (.tup bs)) (ab : AllR (BlockO CB CL CF H) bs ds) (nx : H x = none) (nd : H dx = none) (l : ds.length ≤ 1000)
    (k : ∀ H', Same H H' → PlanO CP CB CL CF H' (.ref x) ds → Q .non H') : spPlanS K CP CB [.ref x, .ref a] (upd (upd H dx (.own x)) x (.ins CP dx [])) Q E := by
  have sb := same_two (o1 := .own x) (o2 := .ins CP dx []) nx nd
  have hgb := ab.mono fun v l h => h.same sb
  have e := ab.length
  refine ⟨x, dx, a, bs, rfl, upd_same, by omega, fun y hy => ?_, ?_⟩
  · obtain ⟨l, _, hl⟩ := hgb.left hy
    exact hl.ins
  rcases ha with ha | ha
  · refine .inl ⟨sb _ _ ha, fun H10 tp d s10 htp => ?_⟩
    have s3 : Same H (upd H10 x (.ins CP dx (planF tp d))) := same_make nx nd s10
    have hx7 : H10 x = some (.ins CP dx []) := s10 _ _ upd_same
    have ntx : tp ≠ x := by
      rintro rfl
      rw [hx7] at htp
      cases htp
    exact k _ s3 ⟨x, dx, tp, bs, d, rfl, upd_same, by rw [upd_ne ntx]; exact htp, ab.mono fun v l h => h.same s3⟩
  · refine .inr ⟨SqT.of (sb _ _ ha), fun H10 d s10 => ?_⟩
    have s3 : Same H (upd H10 x (.ins CP dx (planF a d))) := same_make nx nd s10
    exact k _ s3 ⟨x, dx, a, bs, d, rfl, upd_same, s3 _ _ ha, ab.mono fun v l h => h.same s3⟩
theorem make_planE {CP CB CL CF : Addr} {H : Hp} {x dx a : Addr} {bs : List V} {ds : List BD} {Q : VK} {E : XK} (ha : TupE K H a bs) (ab : AllR (BlockO CB CL CF H) bs ds) (nx : H x = none) (nd : H dx = none) (l : ds.length ≤ 1000)
    (k : ∀ H', Same H H' → PlanE K CP CB CL CF H' (.ref x) ds → Q .non H') : spPlanS K CP CB [.ref x, .ref a] (upd (upd H dx (.own x)) x (.ins CP dx [])) Q E := by
  rcases id ha with h | ⟨rfl, h⟩
  · exact make_plan (.inr h) ab nx nd l fun H' s h => k H' s h.e
  · have sb := same_two (o1 := .own x) (o2 := .ins CP dx []) nx nd
    refine ⟨x, dx, a, [], rfl, upd_same, by decide, fun y hy => absurd hy (by simp), .inr ⟨Same.seqT sb h, fun H10 d s10 => ?_⟩⟩
    have s3 : Same H (upd H10 x (.ins CP dx (planF a d))) := same_make nx nd s10
    exact k _ s3 ⟨x, dx, a, [], d, rfl, upd_same, ha.same s3, ab.mono fun v l h => h.same s3⟩
theorem cat_tupE {H : Hp} {a b : Addr} {xs ys : List V} {Q : VK} (ha : TupE K H a xs) (hb : TupE K H b ys) (l : xs.length + ys.length ≤ sizeLine) (q : ∀ t H', Same H H' → TupE K H' t (xs ++ ys) → Q (.ref t) H') : rCatA K (.ref a) (.ref b) H Q := by
  refine ⟨a, b, xs, ys, rfl, rfl, ha.t, hb.t, l, fun e => ?_, fun _ e => ?_, fun _ _ p np => q p _ (same_new np) (.inl upd_same)⟩
  · refine q b H (Same.refl _) ?_
    rw [e, List.nil_append]
    exact hb
  · refine q a H (Same.refl _) ?_
    rw [e, List.append_nil]
    exact ha
def worth (ds : List BD) (n : Int) : Int := (ds.map fun d => if (d.t * n + d.q).fdiv d.c > 0 then (d.t * n + d.q).fdiv d.c else 0).sum
def spPRead (K : PySem.W.Frag) (CP CB CL CF : Addr) : Sp := fun vs H Q _ => ∃ (ds : List BD), vs = [.ref CP, .str (planText ds)] ∧ ds.length ≤ 10 ∧ (∀ d ∈ ds, BI d) ∧ ∀ u H', Same H H' → PlanE K CP CB CL CF H' u ds → Q u H'
theorem ok_pread (T : Txt K mg) : FnOk P w K mg base CX0 8 T.a_Plan_read T.d_Plan_read ["cls", "text"] (spPRead K T.c_Plan T.c_Block T.c_Lane T.c_Form) := by
  have G__blocks_in : FnOk P w K mg base CX0 7 T.a__blocks_in T.d__blocks_in ["lines"] (spBlocksIn T.c_Block T.c_Lane T.c_Form) := ok_blocks_in T
  have GI_Plan : FnOk P w K mg base CX0 2 T.a_Plan___init__ T.d_Plan___init__ ["self", "blocks"] (spPlanS K T.c_Plan T.c_Block) := ok_planS T
  obtain ⟨ds0, V0_Plan, B0_Plan⟩ := T.D_Plan___init__
  refine T.F_Plan_read.ok sc_Plan_read (fun vs H Q E h => ?_) (fun cdv A outer s H vs Q E hr h => ?_)
  · obtain ⟨ds, rfl, _⟩ := h
    rfl
  · obtain ⟨ds, rfl, hl, bis, k⟩ := h
    have nd := sc_Plan_read.nd
    refine ⟨_, (pss_cons (ps_if (pt_cmpR op_eq (pv 1) pe_str (nomark _)) (pss_one (ps_ret (pe_makeV0 (i := 0) T.M_Plan GI_Plan (hr.mono (by first | decide | omega)) rfl (Or.inl rfl) B0_Plan V0_Plan pass0))) pss_nil)
    (pss_one (ps_ret (pe_makeV (i := 0) T.M_Plan GI_Plan (hr.mono (by first | decide | omega)) rfl (Or.inl rfl) T.b_Plan___init__ .nil pass0 (pa_cons (pe_call G__blocks_in (hr.mono (by first | decide | omega)) (by rfl) T.m__blocks_in T.k__blocks_in T.b__blocks_in .nil pass0 (pa_cons (pe_split (pv 1) pe_str) pa_nil)) pa_nil))))), ?_⟩
    have e9 := sizeLine_eq
    refine seqif_go (tst_go ?_)
    refine ⟨_, rfl, rfl, _, rfl, ?_⟩
    rw [show decide (V.str (planText ds) = V.str (Str.ofString "")) = decide (planText ds = planText []) from decide_eq_decide.mpr ⟨fun e => by injection e, fun e => by rw [e]; rfl⟩]
    refine ifD (fun e => ?_) (fun e => ?_)
    · have e0 : ds = [] := by
        by_cases n : ds = []
        · exact n
        · exact absurd e (plan_empty bis n)
      subst e0
      refine ret_go ?_
      refine ⟨rfl, fun x2 d2 nx nd2 ne => ?_⟩
      refine make_planE (CL := T.c_Lane) (CF := T.c_Form) (a := T.e_Plan___init___0) (bs := []) (ds := []) (.inr ⟨rfl, T.E_Plan___init___0 _⟩) .nil nx nd2 (by decide) fun H2 s2 h2 => ⟨rfl, ?_⟩
      exact k _ _ s2 h2
    · have n : ds ≠ [] := fun z => e (by rw [z])
      dsimp only [tNext]
      refine ret_go ?_
      have ln : (planText ds).length + 2 ≤ sizeLine := by
        have a := sum_le (m := 100) (xs := ds.flatMap blockLines) (fun x hx => by
          obtain ⟨d, hd, hx⟩ := List.mem_flatMap.mp hx
          exact line_len (bis d hd) hx)
        have b := flat_len bis
        have c : nl.length = 1 := by decide
        have g := join_len (y := nl) (xs := ds.flatMap blockLines)
        rw [c] at g
        show (Txt.join nl (ds.flatMap blockLines)).length + 2 ≤ sizeLine
        omega
      refine ⟨rfl, _, rfl, ⟨_, rfl⟩, _, _, rfl, rfl, by decide, ln, fun p np => ?_⟩
      rw [show Txt.split (planText ds) (Str.ofString "\n") = _ from plan_split bis n]
      refine ⟨p, ds, rfl, upd_same, n, by omega, bis, fun u bs H1 s1 hu ab => fun x2 d2 nx nd2 ne => ?_⟩
      refine make_plan (.inl hu) ab nx nd2 (by omega) fun H2 s2 h2 => ⟨rfl, ?_⟩
      exact k _ _ ((same_new np).trans (s1.trans s2)) h2.e

end
end K55
namespace K55
open PySem PySem.Spec PyProof.Rows L2 Rs
local macro_rules | `(tactic| walk_at "om") => `(tactic| first | omega | (dsimp only; omega))
local macro_rules | `(tactic| walk_at "side") => `(tactic| first | omega | (dsimp only; omega) | decide | (unfold CMul; omega) | (unfold CDiv; omega) | (unfold CPow; omega) | exact wide_div (b := 64) (by omega) (by omega) (by decide) (by decide))
local macro_rules | `(tactic| walk_at "hp") => `(tactic| first | assumption | exact upd_same)
local macro_rules | `(tactic| walk_at "sq") => `(tactic| first | assumption | exact SqL.of (by assumption) | exact SqL.of upd_same)
local macro_rules | `(tactic| walk_at "st") => `(tactic| first
  | refine ⟨_, rfl, ?_⟩
  | (refine ⟨_, _, rfl, rfl, And.intro ?side ?_⟩; (case side => walk_at "side"))
  | refine ⟨_, _, rfl, rfl, ?_⟩
  | (refine' ⟨_, _, _, _, rfl, rfl, SqL.of ?hp, ?atx, ?_⟩; (case hp => walk_at "hp"); (case atx => exact rfl))
  | (refine' ⟨_, _, _, _, rfl, rfl, ?hp, ?atx, ?_⟩; (case hp => walk_at "hp"); (case atx => exact rfl))
  | (refine' ⟨_, _, rfl, Or.inl ?sq, ?_⟩; (case sq => walk_at "sq"))
  | refine Or.inl ⟨_, rfl, ?_⟩
  | refine Or.inr ⟨_, rfl, ?_⟩)
local macro_rules | `(tactic| walk_at "evd") => `(tactic| first
  | exact evd_int
  | exact evd_str
  | exact evd_non
  | exact evd_bl
  | exact evd_nil
  | (refine evd_cons ?_ (fun _ => ?_) <;> walk_at "evd")
  | (refine evd_tup ?_ (Nat.le_of_ble_eq_true rfl); walk_at "evd"))

section
variable {P : Program} {w : World} {K : PySem.W.Frag} {mg : Str → Option Value} {base : Heap}
/-! the law's own text of a form -/
theorem nS_neg {t : Int} (h : t < 0) : nS t = Str.ofString "-" ++ nS (t.natAbs : Int) := by
  refine tl_inj ?_
  rw [TL.tl_append, signs_neg h, signs_abs]
  rfl
theorem nil_cat {x : Str} : Str.ofString "" ++ x = x := tl_inj (by rw [TL.tl_append]; rfl)
theorem front2 {t : Int} (h : t ≠ 0) : frontS t = (if t < 0 then Str.ofString "-" else Str.ofString "") ++ (if 1 < (t.natAbs : Int) then nS (t.natAbs : Int) else Str.ofString "") ++ Str.ofString "n" := by
  unfold frontS
  by_cases h1 : t = 1
  · subst h1
    rfl
  · by_cases h2 : t = -1
    · subst h2
      rfl
    · rw [if_neg h1, if_neg h2, if_pos (show 1 < (t.natAbs : Int) by omega)]
      by_cases h3 : t < 0
      · rw [if_pos h3, nS_neg h3]
      · rw [if_neg h3, show (t.natAbs : Int) = t by omega, nil_cat]
theorem ok_form_text (T : Txt K mg) : FnOk P w K mg base CX0 1 T.a__law_form_text T.d__law_form_text ["_law_form_here"] (spFormText K) := by
  refine T.F__law_form_text.ok sc__law_form_text (fun vs H Q E h => ?_) (fun cdv A outer s H vs Q E hr h => ?_)
  · obtain ⟨p, t, q, c, rfl, _⟩ := h
    rfl
  · obtain ⟨p, t, q, c, rfl, hp, fr, k⟩ := h
    have nd := sc__law_form_text.nd
    refine ⟨_, (pss_cons (ps_asg (pv 0) (pg_tup rfl (pgs_cons (pg_name (i := 1) nd rfl (Or.inl rfl)) (pgs_cons (pg_name (i := 2) nd rfl (Or.inl rfl)) (pgs_cons (pg_name (i := 3) nd rfl (Or.inl rfl)) pgs_nil)))))
    (pss_cons (ps_set (i := 4) nd rfl (Or.inl rfl) (pe_callTy call_str_int (by rfl) T.z_str (by decide +kernel) (pa_cons (pv 2) pa_nil)))
    (pss_cons (ps_if (pt_cmpR op_ne (pv 1) pe_int (nomark _)) (pss_cons (ps_set (i := 4) nd rfl (Or.inl rfl) (pe_op op_add_str (pe_op op_add_str (pe_ifExp (pt_cmpR op_lt (pv 1) pe_int (nomark _)) pe_str pe_str) (pe_ifExp (pt_cmpR op_gt (pe_callB call_abs (by rfl) T.z_abs (by decide +kernel) (pa_cons (pv 1) pa_nil)) pe_int (nomark _)) (pe_callTy call_str_int (by rfl) T.z_str (by decide +kernel) (pa_cons (pe_callB call_abs (by rfl) T.z_abs (by decide +kernel) (pa_cons (pv 1) pa_nil)) pa_nil)) pe_str)) pe_str))
    (pss_one (ps_if (pt_cmpR op_ne (pv 2) pe_int (nomark _)) (pss_one (ps_set (i := 4) nd rfl (Or.inl rfl) (pe_op op_add_str (pe_op op_add_str (pv 4) (pe_ifExp (pt_cmpR op_gt (pv 2) pe_int (nomark _)) pe_str pe_str)) (pe_callTy call_str_int (by rfl) T.z_str (by decide +kernel) (pa_cons (pv 2) pa_nil))))) pss_nil))) pss_nil)
    (pss_one (ps_ret (pe_ifExp (pt_cmpR op_eq (pv 3) pe_int (nomark _)) (pv 4) (pe_op op_add_str (pe_op op_add_str (pe_op op_add_str pe_str (pv 4)) pe_str) (pe_callTy call_str_int (by rfl) T.z_str (by decide +kernel) (pa_cons (pv 3) pa_nil))))))))), ?_⟩
    refine ⟨_, rfl, p, _, rfl, hp, rfl, _, _, rfl, _, _, rfl, _, _, rfl, rfl, ?_⟩
    dsimp only [gName]
    have t1 := fr.t1
    have q1 := fr.q1
    have c1 := fr.c1
    have c2 := fr.c2
    have mt : Mid t := by unfold Mid; omega
    have ma : Mid (t.natAbs : Int) := by unfold Mid; omega
    have mq : Mid q := by unfold Mid; omega
    have mc : Mid c := by unfold Mid; omega
    have lt := log_small mt
    have la := log_small ma
    have lq := log_small mq
    have lc := log_small mc
    have b1 := nS_mid mt
    have b2 := nS_mid mq
    have b3 := front_len mt
    have b4 := plus_len mq
    have b5 := upper_len mt mq
    have b6 := nS_mid mc
    have b7 := nS_mid ma
    have e9 := sizeLine_eq
    have w1 : (Str.ofString "n").length = 1 := by decide
    have w2 : (Str.ofString "(").length = 1 := by decide
    have w3 : (Str.ofString ")/").length = 2 := by decide
    have w4 : (Str.ofString "+").length = 1 := by decide
    have w5 : (Str.ofString "").length = 0 := by decide
    have w6 : (Str.ofString "-").length = 1 := by decide
    have b1' : (Str.ofString (toString t)).length ≤ 19 := b1
    have b2' : (Str.ofString (toString q)).length ≤ 19 := b2
    have b6' : (Str.ofString (toString c)).length ≤ 19 := b6
    have b7' : (Str.ofString (toString (t.natAbs : Int))).length ≤ 19 := b7
    have eabs : (if t < 0 then -t else t) = (t.natAbs : Int) := by split <;> omega
    have ef := front2 (t := t)
    refine asg_go ⟨_, rfl, _, rfl, lq, ?_⟩
    dsimp only [gName]
    refine seq_k (C := fun σ' H' => H' = H ∧ σ' = [some (.ref p), some (.int t), some (.int q), some (.int c), some (.str (upperS t q))]) (fun σ' H' hC => ?fin) (fun R hR => ?_)
    case fin =>
      obtain ⟨rfl, rfl⟩ := hC
      refine ret_go ?_
      refine ⟨_, rfl, rfl, _, rfl, ?_⟩
      have un : formText t q c = if c = 1 then upperS t q else Str.ofString "(" ++ (upperS t q ++ (Str.ofString ")/" ++ nS c)) := rfl
      by_cases h1 : c = 1
      · rw [if_pos h1] at un
        refine ifT (by rw [h1]; exact decide_eq_true rfl) ⟨_, rfl, ?_⟩
        rw [← un]
        exact k _ (Same.refl _)
      · rw [if_neg h1] at un
        refine ifF (decide_eq_false fun z => h1 (by injection z)) ?_
        refine ⟨_, rfl, _, _, rfl, rfl, by omega, _, _, rfl, rfl, by rw [Str.length_append]; omega, _, rfl, _, rfl, lc, _, _, rfl, rfl, by simp only [Str.length_append]; omega, ?_⟩
        have z := k _ (Same.refl _)
        rw [un] at z
        have ea : ∀ x : Str, Str.ofString "(" ++ upperS t q ++ Str.ofString ")/" ++ x = Str.ofString "(" ++ (upperS t q ++ (Str.ofString ")/" ++ x)) := fun x => tl_inj (by simp only [TL.tl_append, List.append_assoc])
        rw [← ea] at z
        exact z
    have up : upperS t q = if t = 0 then nS q else if q = 0 then frontS t else frontS t ++ plusS q := rfl
    refine ⟨_, rfl, rfl, _, rfl, ?_⟩
    by_cases h0 : t = 0
    · rw [if_pos h0] at up
      refine ifF (by rw [h0]; rfl) ?_
      exact hR _ _ ⟨rfl, by rw [up]; rfl⟩
    rw [if_neg h0] at up
    have ef := ef h0
    refine ifT (by rw [decide_eq_false (fun z => h0 (by injection z))]; rfl) ?_
    refine asg_go (val_go (v := .str (frontS t)) (fun R2 hR2 => ?_) ?_)
    · by_cases hn : t < 0
      · rw [if_pos hn] at ef
        refine ⟨_, rfl, _, _, rfl, rfl, _, rfl, ifT (decide_eq_true hn) ?_⟩
        refine ⟨_, rfl, _, rfl, _, _, rfl, rfl, _, rfl, ?_⟩
        rw [eabs]
        by_cases h1 : 1 < (t.natAbs : Int)
        · rw [if_pos h1] at ef
          refine ifT (decide_eq_true h1) ?_
          refine ⟨_, rfl, _, rfl, _, rfl, by rw [eabs]; exact la, _, _, rfl, rfl, by rw [eabs]; omega, _, _, rfl, rfl, by rw [eabs, Str.length_append]; omega, ?_⟩
          rw [eabs]
          rw [ef] at hR2
          exact hR2
        · rw [if_neg h1] at ef
          refine ifF (decide_eq_false h1) ?_
          refine ⟨_, _, rfl, rfl, by omega, _, _, rfl, rfl, by rw [Str.length_append]; omega, ?_⟩
          rw [ef] at hR2
          exact hR2
      · rw [if_neg hn] at ef
        refine ⟨_, rfl, _, _, rfl, rfl, _, rfl, ifF (decide_eq_false hn) ?_⟩
        refine ⟨_, rfl, _, rfl, _, _, rfl, rfl, _, rfl, ?_⟩
        rw [eabs]
        by_cases h1 : 1 < (t.natAbs : Int)
        · rw [if_pos h1] at ef
          refine ifT (decide_eq_true h1) ?_
          refine ⟨_, rfl, _, rfl, _, rfl, by rw [eabs]; exact la, _, _, rfl, rfl, by rw [eabs]; omega, _, _, rfl, rfl, by rw [eabs, Str.length_append]; omega, ?_⟩
          rw [eabs]
          rw [ef] at hR2
          exact hR2
        · rw [if_neg h1] at ef
          refine ifF (decide_eq_false h1) ?_
          refine ⟨_, _, rfl, rfl, by omega, _, _, rfl, rfl, by rw [Str.length_append]; omega, ?_⟩
          rw [ef] at hR2
          exact hR2
    dsimp only [gName]
    refine ifs_go ?_
    refine ⟨_, rfl, rfl, _, rfl, ?_⟩
    by_cases h2 : q = 0
    · rw [if_pos h2] at up
      refine ifF (by rw [h2]; rfl) ?_
      exact hR _ _ ⟨rfl, by rw [up]; rfl⟩
    · rw [if_neg h2] at up
      refine ifT (by rw [decide_eq_false (fun z => h2 (by injection z))]; rfl) ?_
      have pl : plusS q = if q < 0 then nS q else Str.ofString "+" ++ nS q := rfl
      by_cases hp2 : 0 < q
      · rw [if_neg (by omega)] at pl
        refine ⟨_, rfl, _, rfl, _, _, rfl, rfl, _, rfl, ifT (decide_eq_true hp2) ?_⟩
        refine ⟨_, _, rfl, rfl, by omega, _, rfl, _, rfl, lq, _, _, rfl, rfl, by rw [Str.length_append]; omega, ?_⟩
        refine hR _ _ ⟨rfl, ?_⟩
        rw [up, pl]
        have ea : ∀ x y z : Str, x ++ y ++ z = x ++ (y ++ z) := fun x y z => tl_inj (by simp only [TL.tl_append, List.append_assoc])
        rw [← ea]
        rfl
      · rw [if_pos (by omega)] at pl
        refine ⟨_, rfl, _, rfl, _, _, rfl, rfl, _, rfl, ifF (decide_eq_false hp2) ?_⟩
        refine ⟨_, _, rfl, rfl, by omega, _, rfl, _, rfl, lq, _, _, rfl, rfl, by rw [Str.length_append]; omega, ?_⟩
        refine hR _ _ ⟨rfl, ?_⟩
        rw [up, pl]
        have ea : ∀ x y z : Str, x ++ y ++ z = x ++ (y ++ z) := fun x y z => tl_inj (by simp only [TL.tl_append, List.append_assoc])
        rw [show frontS t ++ nS q = frontS t ++ Str.ofString "" ++ nS q by rw [ea, nil_cat]]
        rfl

end
end K55
namespace K55
open PySem PySem.Spec PyProof.Rows L2 Rs
local macro_rules | `(tactic| walk_at "om") => `(tactic| first | omega | (dsimp only; omega))
local macro_rules | `(tactic| walk_at "side") => `(tactic| first | omega | (dsimp only; omega) | decide | (unfold CMul; omega) | (unfold CDiv; omega) | (unfold CPow; omega) | exact wide_div (b := 64) (by omega) (by omega) (by decide) (by decide))
local macro_rules | `(tactic| walk_at "hp") => `(tactic| first | assumption | exact upd_same)
local macro_rules | `(tactic| walk_at "sq") => `(tactic| first | assumption | exact SqL.of (by assumption) | exact SqL.of upd_same)
local macro_rules | `(tactic| walk_at "st") => `(tactic| first
  | refine ⟨_, rfl, ?_⟩
  | (refine ⟨_, _, rfl, rfl, And.intro ?side ?_⟩; (case side => walk_at "side"))
  | refine ⟨_, _, rfl, rfl, ?_⟩
  | (refine' ⟨_, _, _, _, rfl, rfl, SqL.of ?hp, ?atx, ?_⟩; (case hp => walk_at "hp"); (case atx => exact rfl))
  | (refine' ⟨_, _, _, _, rfl, rfl, ?hp, ?atx, ?_⟩; (case hp => walk_at "hp"); (case atx => exact rfl))
  | (refine' ⟨_, _, rfl, Or.inl ?sq, ?_⟩; (case sq => walk_at "sq"))
  | refine Or.inl ⟨_, rfl, ?_⟩
  | refine Or.inr ⟨_, rfl, ?_⟩)
local macro_rules | `(tactic| walk_at "evd") => `(tactic| first
  | exact evd_int
  | exact evd_str
  | exact evd_non
  | exact evd_bl
  | exact evd_nil
  | (refine evd_cons ?_ (fun _ => ?_) <;> walk_at "evd")
  | (refine evd_tup ?_ (Nat.le_of_ble_eq_true rfl); walk_at "evd"))

section
variable {P : Program} {w : World} {K : PySem.W.Frag} {mg : Str → Option Value} {base : Heap}
/-! the law's own text of a plan, and the package's plan of it -/
theorem ok_plan_text (T : Txt K mg) : FnOk P w K mg base CX0 3 T.a__law_plan_text T.d__law_plan_text ["_law_drawn"] (spPlanText K) := by
  have G__law_form_text : FnOk P w K mg base CX0 1 T.a__law_form_text T.d__law_form_text ["_law_form_here"] (spFormText K) := ok_form_text T
  refine T.F__law_plan_text.ok sc__law_plan_text (fun vs H Q E h => ?_) (fun cdv A outer s H vs Q E hr h => ?_)
  · obtain ⟨a, b, bs, ds, rfl, _⟩ := h
    rfl
  · obtain ⟨a, b, bs, ds, rfl, ha, hbs, dl, k⟩ := h
    have nd := sc__law_plan_text.nd
    refine ⟨_, (pss_cons (ps_set (i := 1) nd rfl (Or.inl rfl) (pe_lst pa_nil))
    (pss_cons (ps_for PassesOwn.never rfl (pi_list (pv 0)) (pg_tup rfl (pgs_cons (pg_name (i := 2) nd rfl (Or.inl rfl)) (pgs_cons (pg_name (i := 3) nd rfl (Or.inl rfl)) pgs_nil)))
    (pss_cons (ps_expr (pe_bm PySem.F.plainAttrs_list PySem.F.slot_list_append PySem.F.type_list_append mt_append (pv 1) (pa_cons (pe_op op_add_str pe_str (pe_call G__law_form_text (hr.mono (by first | decide | omega)) (by rfl) T.m__law_form_text T.k__law_form_text T.b__law_form_text .nil pass0 (pa_cons (pv 2) pa_nil))) pa_nil)))
    (pss_one (ps_expr (pe_bm PySem.F.plainAttrs_list PySem.F.slot_list_extend PySem.F.type_list_extend mt_extend (pv 1) (pa_cons (pe_lc (own := [("_law_lane_here", 4)]) (g := (gName 4)) (by rfl) nd (pi_list (pv 3)) (blkOk_by (N := ["_law_drawn", "_law_lines", "_law_form_here", "_law_lanes", "_law_lane_here"]) (sc := defScope s__law_plan_text) (own := [("_law_lane_here", 4)]) (by decide +kernel)) (fun _ _ _ _ _ => by exact (pg_name (i := 4) nd rfl (Or.inl rfl))) (fun _ _ _ _ _ => by exact pts_nil) (fun _ _ _ _ _ => by exact (pe_joinK (K := K) rfl rfl pe_str (pe_lst (pa_cons (pe_ix (ix_tupK (K := K) rfl) (pv 4) pe_int (fun _ _ => rfl)) (pa_cons (pe_ix (ix_tupK (K := K) rfl) (pv 4) pe_int (fun _ _ => rfl)) (pa_cons (pe_call G__law_form_text (hr.mono (by first | decide | omega)) (by rfl) T.m__law_form_text T.k__law_form_text T.b__law_form_text .nil pass0 (pa_cons (pe_ix (ix_tupK (K := K) rfl) (pv 4) pe_int (fun _ _ => rfl)) pa_nil)) (pa_cons (pe_ix (ix_tupK (K := K) rfl) (pv 4) pe_int (fun _ _ => rfl)) pa_nil)))))))) pa_nil))))))
    (pss_one (ps_ret (pe_join pe_str (pv 1)))))), ?_⟩
    have e9 := sizeLine_eq
    have lb := hbs.length
    refine ⟨szL (Nat.le_of_ble_eq_true rfl), fun F nF => ?_⟩
    refine ⟨_, rfl, a, rfl, ⟨_, SqL.of (same_new nF _ _ ha)⟩, for_list (xs := bs) (fun i σ Hc => ∃ y2 y3, σ = [some (.ref a), some (.ref F), y2, y3, none] ∧ Hc F = some (.lst (((ds.take i).flatMap blockLines).map V.str)) ∧ Same H Hc)
      ⟨none, none, rfl, by rw [upd_same, List.take_zero]; rfl, same_new nF⟩ (fun i σ Hc _ hP => ?_) (fun i x σ Hc hx hP => ?_) (fun σ Hc hP => ?_)⟩
    · obtain ⟨_, _, _, _, sc⟩ := hP
      exact SqL.of (sc _ _ ha)
    · obtain ⟨y2, y3, rfl, hF, sc⟩ := hP
      obtain ⟨d, ed, hd⟩ := hbs.get hx
      have hn := (List.getElem?_eq_some_iff.mp hx).1
      obtain ⟨p, f, L, vs, rfl, hp, hf, _, hL, hvs, di⟩ := hd
      have small := flat_len (ds := ds.take i) (fun d h => di_all hbs d (List.mem_of_mem_take h))
      have l9 : (ds.take i).length ≤ 10 := by rw [List.length_take]; omega
      refine ⟨p, _, rfl, SqT.of (sc _ _ hp), rfl, _, _, rfl, _, _, rfl, rfl, ?_⟩
      refine ⟨_, rfl, .inl ⟨rfl, _, SqL.of hF⟩, ?_⟩
      refine ⟨_, rfl, f, _, _, _, rfl, SqT.of (sc _ _ hf), di.r.r, fun H1 s1 => ?_⟩
      have fl := form_len di.r.r
      have w1 : (Str.ofString "rounds ").length = 7 := by decide
      refine ⟨_, _, rfl, rfl, by omega, ?_⟩
      refine ⟨F, _, _, rfl, rfl, s1 _ _ hF, by rw [List.length_map]; omega, ?_⟩
      have s2 : Same H (upd H1 F (.lst (((ds.take i).flatMap blockLines).map V.str ++ [.str (Str.ofString "rounds " ++ formText d.t d.q d.c)]))) := same_lst (sc.trans s1) nF
      have hF2 : upd H1 F (.lst (((ds.take i).flatMap blockLines).map V.str ++ [.str (Str.ofString "rounds " ++ formText d.t d.q d.c)])) F = some (.lst (((ds.take i).flatMap blockLines).map V.str ++ [.str (Str.ofString "rounds " ++ formText d.t d.q d.c)])) := upd_same
      generalize upd H1 F _ = H2 at s2 hF2 ⊢
      dsimp only [tDrop]
      have lv := hvs.length
      have dl1 := di.l1
      refine ⟨_, rfl, .inl ⟨rfl, _, SqL.of hF2⟩, ?_⟩
      refine ⟨_, rfl, L, rfl, ⟨_, SqL.of (s2 _ _ hL)⟩, fun D hD => ?_⟩
      refine lc_list (xs := vs) (fun j Hd => Hd D = some (.lst (((d.ls.map laneText).take j).map V.str)) ∧ Same H2 Hd) ⟨by rw [upd_same, List.take_zero]; rfl, same_new hD⟩ (fun j Hd _ hP => SqL.of (hP.2 _ _ (s2 _ _ hL))) (fun j y Hd hy hP => ?_) (fun Hd hP => ?_)
      · obtain ⟨hDd, sd⟩ := hP
        obtain ⟨l, el, hl⟩ := hvs.get hy
        have hj := (List.getElem?_eq_some_iff.mp hy).1
        obtain ⟨q, g, rfl, hq, hg, li⟩ := hl.same (s2.trans sd)
        refine ⟨rfl, ⟨_, rfl⟩, _, rfl, _, _, _, _, rfl, rfl, SqT.of hq, rfl, _, rfl, _, _, _, _, rfl, rfl, SqT.of hq, rfl, _, rfl, _, _, _, _, rfl, rfl, SqT.of hq, rfl, g, _, _, _, rfl, SqT.of hg, li.r, fun H3 s3 => ?_⟩
        refine ⟨_, rfl, _, _, _, _, rfl, rfl, SqT.of (s3 _ _ hq), rfl, szL (Nat.le_of_ble_eq_true rfl), fun E nE => ?_⟩
        have z1 := form_len li.r
        have z2 := small_word (.inl li.w)
        have z3 := small_word (.inr (.inl li.s))
        have z4 := small_word (.inr (.inr li.d))
        have z5 : blank.length = 1 := by decide
        have eg : (d.ls.map laneText)[j]? = some (laneText l) := by
          rw [List.getElem?_map, el]
          rfl
        have s4 := s3.trans (same_new (o := .lst [.str l.w, .str l.s, .str (formText l.t l.q l.c), .str l.d]) nE)
        refine ⟨blank, E, [l.w, l.s, formText l.t l.q l.c, l.d], rfl, rfl, .inl (SqL.of upd_same), by simp [z5]; omega, ?_⟩
        exact ⟨_, s4 _ _ hDd, szl (by rw [List.length_map, List.length_take, List.length_map]; omega), by rw [upd_same, take_snoc eg, List.map_append]; rfl, same_lst (sd.trans s4) hD⟩
      · obtain ⟨hDd, sd⟩ := hP
        rw [lv, show d.ls.length = (d.ls.map laneText).length by rw [List.length_map], List.take_length] at hDd
        refine ⟨F, D, _, _, rfl, rfl, sd _ _ hF2, hDd, by simp only [List.length_append, List.length_map, List.length_cons, List.length_nil]; omega, ?_⟩
        refine ⟨_, _, rfl, ?_, same_lst (s2.trans sd) nF⟩
        rw [upd_same, take_snoc ed, List.flatMap_append, List.map_append, List.flatMap_cons, List.flatMap_nil, List.append_nil, List.append_assoc]
        rfl
    · obtain ⟨y2, y3, rfl, hF, sc⟩ := hP
      rw [lb, List.take_length] at hF
      dsimp only
      refine ret_go ?_
      refine ⟨⟨_, rfl⟩, _, rfl, nl, F, _, rfl, rfl, .inl (SqL.of hF), flat_small dl (di_all hbs), ?_⟩
      exact k _ sc
def spPlanOfD (K : PySem.W.Frag) (CP CB CL CF : Addr) : Sp := fun vs H Q _ => ∃ (a b : Addr) (bs : List V) (ds : List BD), vs = [.ref a] ∧ H a = some (.lst bs) ∧ AllR (BlockV b H) bs ds ∧ ds.length ≤ 10 ∧ ∀ u H', Same H H' → PlanE K CP CB CL CF H' u ds → Q u H'
theorem ok_plan_ofD (T : Txt K mg) : FnOk P w K mg base CX0 9 T.a__law_plan_of T.d__law_plan_of ["_law_drawn"] (spPlanOfD K T.c_Plan T.c_Block T.c_Lane T.c_Form) := by
  have G__law_plan_text : FnOk P w K mg base CX0 3 T.a__law_plan_text T.d__law_plan_text ["_law_drawn"] (spPlanText K) := ok_plan_text T
  have R_Plan_read : FnR P w K mg base CX0 8 T.a_Plan_read (spPRead K T.c_Plan T.c_Block T.c_Lane T.c_Form) := fnR (ok_pread T) T.b_Plan_read
  refine T.F__law_plan_of.ok sc__law_plan_of (fun vs H Q E h => ?_) (fun cdv A outer s H vs Q E hr h => ?_)
  · obtain ⟨a, b, bs, ds, rfl, _⟩ := h
    rfl
  · obtain ⟨a, b, bs, ds, rfl, ha, hbs, dl, k⟩ := h
    have nd := sc__law_plan_of.nd
    refine ⟨_, (pss_one (ps_ret (ClX.pe_cmeth (pe_glob rfl T.m_Plan (rel_ref _)) T.R_Plan T.G_Plan_read R_Plan_read (hr.mono (by first | decide | omega)) pass0 (pa_cons (pe_call G__law_plan_text (hr.mono (by first | decide | omega)) (by rfl) T.m__law_plan_text T.k__law_plan_text T.b__law_plan_text .nil pass0 (pa_cons (pv 0) pa_nil)) pa_nil)))), ?_⟩
    refine ret_go ?_
    refine ⟨rfl, _, rfl, a, b, bs, ds, rfl, ha, hbs, dl, fun H1 s1 => ?_⟩
    exact ⟨ds, rfl, dl, di_all hbs, fun u H2 s2 hu => k u H2 (s1.trans s2) hu⟩

end
end K55
namespace K55
open PySem PySem.Spec PyProof.Rows L2 Rs
local macro_rules | `(tactic| walk_at "om") => `(tactic| first | omega | (dsimp only; omega))
local macro_rules | `(tactic| walk_at "side") => `(tactic| first | omega | (dsimp only; omega) | decide | (unfold CMul; omega) | (unfold CDiv; omega) | (unfold CPow; omega) | exact wide_div (b := 64) (by omega) (by omega) (by decide) (by decide))
local macro_rules | `(tactic| walk_at "hp") => `(tactic| first | assumption | exact upd_same)
local macro_rules | `(tactic| walk_at "sq") => `(tactic| first | assumption | exact SqL.of (by assumption) | exact SqL.of upd_same)
local macro_rules | `(tactic| walk_at "st") => `(tactic| first
  | refine ⟨_, rfl, ?_⟩
  | (refine ⟨_, _, rfl, rfl, And.intro ?side ?_⟩; (case side => walk_at "side"))
  | refine ⟨_, _, rfl, rfl, ?_⟩
  | (refine' ⟨_, _, _, _, rfl, rfl, SqL.of ?hp, ?atx, ?_⟩; (case hp => walk_at "hp"); (case atx => exact rfl))
  | (refine' ⟨_, _, _, _, rfl, rfl, ?hp, ?atx, ?_⟩; (case hp => walk_at "hp"); (case atx => exact rfl))
  | (refine' ⟨_, _, rfl, Or.inl ?sq, ?_⟩; (case sq => walk_at "sq"))
  | refine Or.inl ⟨_, rfl, ?_⟩
  | refine Or.inr ⟨_, rfl, ?_⟩)
local macro_rules | `(tactic| walk_at "evd") => `(tactic| first
  | exact evd_int
  | exact evd_str
  | exact evd_non
  | exact evd_bl
  | exact evd_nil
  | (refine evd_cons ?_ (fun _ => ?_) <;> walk_at "evd")
  | (refine evd_tup ?_ (Nat.le_of_ble_eq_true rfl); walk_at "evd"))

section
variable {P : Program} {w : World} {K : PySem.W.Frag} {mg : Str → Option Value} {base : Heap}
theorem cutl_midN {xs : List V} {lo hi : Nat} (h : lo ≤ hi ∧ hi ≤ xs.length) : cutV xs (some (lo : Int)) (some (hi : Int)) = (xs.take hi).drop lo := by
  unfold cutV
  rw [HT.sIx_nat, HT.sIx_nat, Nat.min_eq_left h.2, Nat.min_eq_left (Nat.le_trans h.1 h.2), List.drop_take]
theorem cutl_to {xs : List V} {q : Nat} (h : q ≤ xs.length) : cutV xs none (some (q : Int)) = xs.take q := by
  have z := cutl_midN (xs := xs) (lo := 0) (hi := q) ⟨Nat.zero_le _, h⟩
  exact z
theorem cutl_from {xs : List V} {q : Nat} (h : q ≤ xs.length) : cutV xs (some (q : Int)) none = xs.drop q := by
  have z := cutl_midN (xs := xs) (lo := q) (hi := xs.length) ⟨h, Nat.le_refl _⟩
  rw [List.take_length] at z
  rw [← z]
  unfold cutV
  have e1 : HT.sIx xs.length xs.length (some ((xs.length : Nat) : Int)) = HT.sIx xs.length xs.length none := by
    rw [HT.sIx_nat, Nat.min_self]
    rfl
  rw [e1]

/-! drawn forms and lanes -/
structure SmallF (t q c : Int) : Prop where
  t1 : -2 ≤ t
  t2 : t ≤ 2
  q1 : -4 ≤ q
  q2 : q ≤ 4
  c1 : 1 ≤ c
  c2 : c ≤ 5
theorem SmallF.fb {t q c : Int} (h : SmallF t q c) : FB t q c := by
  obtain ⟨a, b, c, d, e, f⟩ := h
  exact ⟨by omega, by omega, by omega, by omega, by omega, by omega⟩
def spFormD : Sp := fun vs H Q _ => ∃ (b : Addr) (n : Int), vs = [.ref b, .int n] ∧ Box H b ∧ 0 ≤ n ∧ n ≤ 2 ∧
  ∀ (v : V) (t q c : Int) (H' : Hp), FormV H' v t q c → SmallF t q c → 0 ≤ t → c ≤ 2 → -2 ≤ q → q ≤ 2 → Box H' b → But b H H' → Q v H'
theorem ok_formD (T : Txt K mg) : FnOk P w K mg base CX0 3 T.a__law_form T.d__law_form ["_law_box_here", "_law_most"] spFormD := by
  have G__law_take : FnOk P w K mg base CX0 1 T.a__law_take T.d__law_take ["_law_box_here", "_law_many"] spTake := ok_take T
  have G__law_pick : FnOk P w K mg base CX0 2 T.a__law_pick T.d__law_pick ["_law_box_here", "_law_items"] spPick := ok_pick T
  refine T.F__law_form.ok sc__law_form (fun vs H Q E h => ?_) (fun cdv A outer s H vs Q E hr h => ?_)
  · obtain ⟨b, n, rfl, _⟩ := h
    rfl
  · obtain ⟨b, n, rfl, hB, n0, n2, k⟩ := h
    have nd := sc__law_form.nd
    refine ⟨_, (pss_one (ps_ret (pe_tup (pa_cons (pe_call G__law_pick (hr.mono (by first | decide | omega)) (by rfl) T.m__law_pick T.k__law_pick T.b__law_pick .nil pass0 (pa_cons (pv 0) (pa_cons (pe_slice sl_list (pe_lst (pa_cons pe_int (pa_cons pe_int (pa_cons pe_int (pa_cons pe_int pa_nil))))) po_none (po_some (pe_op op_add (pv 1) pe_int))) pa_nil))) (pa_cons (pe_op op_sub (pe_call G__law_take (hr.mono (by first | decide | omega)) (by rfl) T.m__law_take T.k__law_take T.b__law_take .nil pass0 (pa_cons (pv 0) (pa_cons pe_int pa_nil))) pe_int) (pa_cons (pe_op op_add pe_int (pe_call G__law_take (hr.mono (by first | decide | omega)) (by rfl) T.m__law_take T.k__law_take T.b__law_take .nil pass0 (pa_cons (pv 0) (pa_cons pe_int pa_nil)))) pa_nil)))))), ?_⟩
    refine ret_go ?_
    refine ⟨_, rfl, szL (Nat.le_of_ble_eq_true rfl), fun p1 np1 => ?_⟩
    have s1 := same_new (o := .lst [.int 0, .int 1, .int 1, .int 2]) np1
    refine ⟨_, rfl, _, _, rfl, rfl, _, rfl, p1, _, rfl, SqL.of upd_same, fun p2 np2 => ?_⟩
    obtain ⟨n, rfl⟩ := Int.eq_ofNat_of_zero_le n0
    have e2 : (Int.ofNat n + 2) = ((n + 2 : Nat) : Int) := rfl
    have e3 : cutV [V.int 0, .int 1, .int 1, .int 2] none (some ((n : Int) + 2)) = [V.int 0, .int 1, .int 1, .int 2].take (n + 2) := cutl_to (xs := [V.int 0, .int 1, .int 1, .int 2]) (q := n + 2) (by show n + 2 ≤ 4; omega)
    rw [e3] at *
    have s2 := same_new (o := .lst ([V.int 0, .int 1, .int 1, .int 2].take (n + 2))) np2
    have B2 := (hB.same s1).same s2
    refine ⟨b, p2, _, rfl, B2, (hB.same s1).ne_none np2, upd_same, by rw [List.length_take]; show 0 < min (n + 2) 4; omega, by rw [List.length_take]; show min (n + 2) 4 < 1000; omega, fun v H3 hv B3 k3 => ?_⟩
    have hv2 := List.mem_of_mem_take hv
    obtain ⟨t, rfl, t0, t2⟩ : ∃ t : Int, v = .int t ∧ 0 ≤ t ∧ t ≤ 2 := by
      simp only [List.mem_cons, List.not_mem_nil, or_false] at hv2
      rcases hv2 with h | h | h | h <;> exact ⟨_, h, by decide, by decide⟩
    refine ⟨_, rfl, b, 5, rfl, B3, by decide, by decide, fun x H4 x0 x1 B4 k4 => ?_⟩
    refine ⟨_, _, rfl, rfl, _, rfl, b, 2, rfl, B4, by decide, by decide, fun y H5 y0 y1 B5 k5 => ?_⟩
    refine ⟨_, _, rfl, rfl, szL (Nat.le_of_ble_eq_true rfl), fun p np => ?_⟩
    have s6 := same_new (o := .tup [.int t, .int (x - 2), .int (1 + y)]) np
    have sm : SmallF t (x - 2) (1 + y) := ⟨by omega, by omega, by omega, by omega, by omega, by omega⟩
    exact k _ t (x - 2) (1 + y) _ ⟨p, rfl, upd_same, sm.fb⟩ sm t0 (by omega) (by omega) (by omega) (B5.same s6) (((((But.of_same (s1.trans s2)).trans k3).trans k4).trans k5).trans (But.of_same s6))
structure SmallL (l : LD) : Prop where
  t1 : -2 ≤ l.t
  t2 : l.t ≤ 2
  q1 : -4 ≤ l.q
  q2 : l.q ≤ 4
  c2 : l.c ≤ 5
def spLaneD : Sp := fun vs H Q _ => ∃ (b : Addr), vs = [.ref b] ∧ Box H b ∧ ∀ (v : V) (l : LD) (H' : Hp), LaneV H' v l → SmallL l → Box H' b → But b H H' → Q v H'
theorem ok_laneD (T : Txt K mg) : FnOk P w K mg base CX0 4 T.a__law_lane T.d__law_lane ["_law_box_here"] spLaneD := by
  have G__law_pick : FnOk P w K mg base CX0 2 T.a__law_pick T.d__law_pick ["_law_box_here", "_law_items"] spPick := ok_pick T
  have G__law_form : FnOk P w K mg base CX0 3 T.a__law_form T.d__law_form ["_law_box_here", "_law_most"] spFormD := ok_formD T
  refine T.F__law_lane.ok sc__law_lane (fun vs H Q E h => ?_) (fun cdv A outer s H vs Q E hr h => ?_)
  · obtain ⟨b, rfl, _⟩ := h
    rfl
  · obtain ⟨b, rfl, hB, k⟩ := h
    have nd := sc__law_lane.nd
    refine ⟨_, (pss_cons (ps_set (i := 1) nd rfl (Or.inl rfl) (pe_call G__law_pick (hr.mono (by first | decide | omega)) (by rfl) T.m__law_pick T.k__law_pick T.b__law_pick .nil pass0 (pa_cons (pv 0) (pa_cons (pe_lst (pa_cons pe_str (pa_cons pe_str (pa_cons pe_str pa_nil)))) pa_nil))))
    (pss_one (ps_ret (pe_tup (pa_cons (pe_call G__law_pick (hr.mono (by first | decide | omega)) (by rfl) T.m__law_pick T.k__law_pick T.b__law_pick .nil pass0 (pa_cons (pv 0) (pa_cons (pe_lst (pa_cons pe_str (pa_cons pe_str pa_nil))) pa_nil))) (pa_cons (pe_call G__law_pick (hr.mono (by first | decide | omega)) (by rfl) T.m__law_pick T.k__law_pick T.b__law_pick .nil pass0 (pa_cons (pv 0) (pa_cons (pe_lst (pa_cons pe_str (pa_cons pe_str pa_nil))) pa_nil))) (pa_cons (pe_call G__law_form (hr.mono (by first | decide | omega)) (by rfl) T.m__law_form T.k__law_form T.b__law_form .nil pass0 (pa_cons (pv 0) (pa_cons pe_int pa_nil))) (pa_cons (pv 1) pa_nil)))))))), ?_⟩
    refine asg_go ?_
    refine ⟨_, rfl, szL (Nat.le_of_ble_eq_true rfl), fun p1 np1 => ?_⟩
    have s1 := same_new (o := .lst [.str (Str.ofString "add"), .str (Str.ofString "add"), .str (Str.ofString "put")]) np1
    refine ⟨b, p1, _, rfl, hB.same s1, hB.ne_none np1, upd_same, by decide, by decide, fun v1 H1 hv1 B1 k1 => ?_⟩
    obtain ⟨d, rfl, hd⟩ := mem3 (ys := deeds) hv1 (by decide) (by decide) (by decide)
    dsimp only [gName]
    refine ret_go ?_
    refine ⟨_, rfl, szL (Nat.le_of_ble_eq_true rfl), fun p2 np2 => ?_⟩
    have s2 := same_new (o := .lst [.str (Str.ofString "up"), .str (Str.ofString "down")]) np2
    refine ⟨b, p2, _, rfl, B1.same s2, B1.ne_none np2, upd_same, by decide, by decide, fun v2 H2 hv2 B2 k2 => ?_⟩
    obtain ⟨wy, rfl, hw⟩ : ∃ x, v2 = .str x ∧ x ∈ ways := by
      simp only [List.mem_cons, List.not_mem_nil, or_false] at hv2
      rcases hv2 with h | h <;> exact ⟨_, h, by decide⟩
    refine ⟨_, rfl, szL (Nat.le_of_ble_eq_true rfl), fun p3 np3 => ?_⟩
    have s3 := same_new (o := .lst [.str (Str.ofString "+"), .str (Str.ofString "-")]) np3
    refine ⟨b, p3, _, rfl, B2.same s3, B2.ne_none np3, upd_same, by decide, by decide, fun v3 H3 hv3 B3 k3 => ?_⟩
    obtain ⟨sg, rfl, hs⟩ : ∃ x, v3 = .str x ∧ x ∈ signs := by
      simp only [List.mem_cons, List.not_mem_nil, or_false] at hv3
      rcases hv3 with h | h <;> exact ⟨_, h, by decide⟩
    refine ⟨_, rfl, b, 1, rfl, B3, by decide, by decide, fun f t q c H4 hf sm t0 c2 q1 q2 B4 k4 => ?_⟩
    obtain ⟨pf, rfl, hpf, fb⟩ := hf
    refine ⟨_, rfl, szL (Nat.le_of_ble_eq_true rfl), fun p np => ?_⟩
    have s5 := same_new (o := .tup [.str wy, .str sg, .ref pf, .str d]) np
    refine k _ ⟨wy, sg, t, q, c, d⟩ _ ⟨p, pf, rfl, upd_same, s5 _ _ hpf, ⟨hw, hs, hd, fb.t1, fb.t2, fb.q1, fb.q2, fb.c1, fb.c2⟩⟩ ⟨sm.t1, sm.t2, sm.q1, sm.q2, sm.c2⟩ (B4.same s5) ?_
    exact ((((((But.of_same s1).trans k1).trans ((But.of_same s2).trans k2)).trans ((But.of_same s3).trans k3)).trans k4).trans (But.of_same s5))

def spWideF : Sp := fun vs H Q _ => ∃ (b : Addr), vs = [.ref b] ∧ Box H b ∧ ∀ (v : V) (t q c : Int) (H' : Hp), FormV H' v t q c → SmallF t q c → Box H' b → But b H H' → Q v H'
theorem ok_wideF (T : Txt K mg) : FnOk P w K mg base CX0 2 T.a__law_wide_form T.d__law_wide_form ["_law_box_here"] spWideF := by
  have G__law_take : FnOk P w K mg base CX0 1 T.a__law_take T.d__law_take ["_law_box_here", "_law_many"] spTake := ok_take T
  refine T.F__law_wide_form.ok sc__law_wide_form (fun vs H Q E h => ?_) (fun cdv A outer s H vs Q E hr h => ?_)
  · obtain ⟨b, rfl, _⟩ := h
    rfl
  · obtain ⟨b, rfl, hB, k⟩ := h
    have nd := sc__law_wide_form.nd
    refine ⟨_, (pss_one (ps_ret (pe_tup (pa_cons (pe_op op_sub (pe_call G__law_take (hr.mono (by first | decide | omega)) (by rfl) T.m__law_take T.k__law_take T.b__law_take .nil pass0 (pa_cons (pv 0) (pa_cons pe_int pa_nil))) pe_int) (pa_cons (pe_op op_sub (pe_call G__law_take (hr.mono (by first | decide | omega)) (by rfl) T.m__law_take T.k__law_take T.b__law_take .nil pass0 (pa_cons (pv 0) (pa_cons pe_int pa_nil))) pe_int) (pa_cons (pe_op op_add pe_int (pe_call G__law_take (hr.mono (by first | decide | omega)) (by rfl) T.m__law_take T.k__law_take T.b__law_take .nil pass0 (pa_cons (pv 0) (pa_cons pe_int pa_nil)))) pa_nil)))))), ?_⟩
    refine ret_go ?_
    refine ⟨_, rfl, b, 5, rfl, hB, by decide, by decide, fun x H4 x0 x1 B4 k4 => ?_⟩
    refine ⟨_, _, rfl, rfl, _, rfl, b, 9, rfl, B4, by decide, by decide, fun y H5 y0 y1 B5 k5 => ?_⟩
    refine ⟨_, _, rfl, rfl, _, rfl, b, 5, rfl, B5, by decide, by decide, fun z H6 z0 z1 B6 k6 => ?_⟩
    refine ⟨_, _, rfl, rfl, szL (Nat.le_of_ble_eq_true rfl), fun p np => ?_⟩
    have s7 := same_new (o := .tup [.int (x - 2), .int (y - 4), .int (1 + z)]) np
    have sm : SmallF (x - 2) (y - 4) (1 + z) := ⟨by omega, by omega, by omega, by omega, by omega, by omega⟩
    exact k _ _ _ _ _ ⟨p, rfl, upd_same, sm.fb⟩ sm (B6.same s7) (((k4.trans k5).trans k6).trans (But.of_same s7))

end
end K55
namespace K55
open PySem PySem.Spec PyProof.Rows L2 Rs
local macro_rules | `(tactic| walk_at "om") => `(tactic| first | omega | (dsimp only; omega))
local macro_rules | `(tactic| walk_at "side") => `(tactic| first | omega | (dsimp only; omega) | decide | (unfold CMul; omega) | (unfold CDiv; omega) | (unfold CPow; omega) | exact wide_div (b := 64) (by omega) (by omega) (by decide) (by decide))
local macro_rules | `(tactic| walk_at "hp") => `(tactic| first | assumption | exact upd_same)
local macro_rules | `(tactic| walk_at "sq") => `(tactic| first | assumption | exact SqL.of (by assumption) | exact SqL.of upd_same)
local macro_rules | `(tactic| walk_at "st") => `(tactic| first
  | refine ⟨_, rfl, ?_⟩
  | (refine ⟨_, _, rfl, rfl, And.intro ?side ?_⟩; (case side => walk_at "side"))
  | refine ⟨_, _, rfl, rfl, ?_⟩
  | (refine' ⟨_, _, _, _, rfl, rfl, SqL.of ?hp, ?atx, ?_⟩; (case hp => walk_at "hp"); (case atx => exact rfl))
  | (refine' ⟨_, _, _, _, rfl, rfl, ?hp, ?atx, ?_⟩; (case hp => walk_at "hp"); (case atx => exact rfl))
  | (refine' ⟨_, _, rfl, Or.inl ?sq, ?_⟩; (case sq => walk_at "sq"))
  | refine Or.inl ⟨_, rfl, ?_⟩
  | refine Or.inr ⟨_, rfl, ?_⟩)
local macro_rules | `(tactic| walk_at "evd") => `(tactic| first
  | exact evd_int
  | exact evd_str
  | exact evd_non
  | exact evd_bl
  | exact evd_nil
  | (refine evd_cons ?_ (fun _ => ?_) <;> walk_at "evd")
  | (refine evd_tup ?_ (Nat.le_of_ble_eq_true rfl); walk_at "evd"))

section
variable {P : Program} {w : World} {K : PySem.W.Frag} {mg : Str → Option Value} {base : Heap}
/-! the pace -/
def valP (d : BD) (n : Int) : Int := (d.t * n + d.q).fdiv d.c
def paceT (s : Int × Int) (d : BD) : Int × Int := (s.1 * d.c + (if d.t > 0 then d.t else 0) * s.2, s.2 * d.c)
def paceS (ds : List BD) : Int × Int := ds.foldl paceT (0, 1)
def spPace (K : PySem.W.Frag) (CP CB CL CF : Addr) : Sp := fun vs H Q _ => ∃ (u : V) (ds : List BD), vs = [u] ∧ PlanE K CP CB CL CF H u ds ∧ (∀ d ∈ ds, BI d) ∧ 0 < (paceS ds).2 ∧ (paceS ds).2 < 1073741824 ∧
  ∀ p H', Same H H' → H' p = some (.tup [.int ((paceS ds).1 / Int.gcd (paceS ds).1 (paceS ds).2), .int ((paceS ds).2 / Int.gcd (paceS ds).1 (paceS ds).2)]) → Q (.ref p) H'
theorem ok_pace (T : Txt K mg) : FnOk P w K mg base CX0 1 T.a_pace T.d_pace ["plan"] (spPace K T.c_Plan T.c_Block T.c_Lane T.c_Form) := by
  refine T.F_pace.ok sc_pace (fun vs H Q E h => ?_) (fun cdv A outer s H vs Q E hr h => ?_)
  · obtain ⟨u, ds, rfl, _⟩ := h
    rfl
  · obtain ⟨u, ds, rfl, ⟨x, dx, tp, bs, dd, rfl, hx, ht, hbs⟩, bis, l0, l1, k⟩ := h
    have nd := sc_pace.nd
    refine ⟨_, (pss_cons (ps_asg (pe_tup (pa_cons pe_int (pa_cons pe_int pa_nil))) (pg_tup rfl (pgs_cons (pg_name (i := 1) nd rfl (Or.inl rfl)) (pgs_cons (pg_name (i := 2) nd rfl (Or.inl rfl)) pgs_nil))))
    (pss_cons (ps_for PassesOwn.never rfl (pi_tup (pe_fld (pv 0) rfl)) (pg_name (i := 3) nd rfl (Or.inl rfl))
    (pss_cons (ps_set (i := 4) nd rfl (Or.inl rfl) (pe_callB (call_max2 rfl) (by rfl) T.z_max (by decide +kernel) (pa_cons pe_int (pa_cons (pe_callTy call_int1 (by rfl) T.z_int (by decide +kernel) (pa_cons (pe_fld (pe_fld (pv 3) rfl) rfl) pa_nil)) pa_nil))))
    (pss_one (ps_par (i := 1) (j := 2) (by rfl) nd rfl rfl (by decide) rfl rfl (pa_cons (pe_op op_add (pe_op op_mul (pv 1) (pe_fld (pe_fld (pv 3) rfl) rfl)) (pe_op op_mul (pv 4) (pv 2))) (pa_cons (pe_op op_mul (pv 2) (pe_fld (pe_fld (pv 3) rfl) rfl)) pa_nil)) (by rfl)))))
    (pss_cons (ps_set (i := 5) nd rfl (Or.inl rfl) (pe_callBfun cr_gcd (by rfl) T.m_gcd (pa_cons (pv 1) (pa_cons (pv 2) pa_nil))))
    (pss_one (ps_ret (pe_tup (pa_cons (pe_op op_fdiv (pv 1) (pv 5)) (pa_cons (pe_op op_fdiv (pv 2) (pv 5)) pa_nil)))))))), ?_⟩
    have ht' := ht.t
    have lb := hbs.length
    refine asg_go ?_
    refine ⟨szL (Nat.le_of_ble_eq_true rfl), fun p np => ?_⟩
    have s1 := same_new (o := .tup [.int 0, .int 1]) np
    refine ⟨p, _, rfl, SqT.of upd_same, rfl, _, _, rfl, _, _, rfl, rfl, ?_⟩
    generalize upd H p (.tup [.int 0, .int 1]) = H1 at s1 ⊢
    dsimp only [gName]
    refine ⟨_, rfl, x, _, dx, _, _, rfl, s1 _ _ hx, T.C_Plan, T.n_Plan_blocks, rfl, tp, rfl, ⟨bs, Same.seqT s1 ht'⟩, for_it (walk_tup (xs := bs)) (fun i σ Hc => ∃ y3 y4, σ = [some (.ref x), some (.int (paceS (ds.take i)).1), some (.int (paceS (ds.take i)).2), y3, y4, none] ∧ Hc = H1) ⟨none, none, rfl, rfl⟩ (fun i σ Hc _ hP => by obtain ⟨_, _, _, rfl⟩ := hP; exact Same.seqT s1 ht') (fun i v σ Hc H' hi hP hy => ?_) (fun σ Hc hP => ?_)⟩
    · obtain ⟨y3, y4, rfl, rfl⟩ := hP
      obtain ⟨rfl, hv⟩ := hy
      obtain ⟨d, ed, hd⟩ := hbs.get hv
      obtain ⟨z, dz, yf, tz, us, rfl, hz, ⟨df, hf⟩, _, _, di⟩ := hd.same s1
      have r := di.r
      have t1 := r.t1
      have t2 := r.t2
      have c1 := r.c1
      have c2 := r.c2
      dsimp only [gName]
      refine asg_go ?_
      refine ⟨_, rfl, z, T.c_Block, dz, _, _, rfl, hz, T.C_Block, T.n_Block_rounds, rfl, yf, T.c_Form, df, _, _, rfl, hf, T.C_Form, T.n_Form_times, rfl, .inl ⟨_, rfl, _, _, rfl, ?_⟩⟩
      dsimp only [gName]
      refine ⟨_, rfl, _, rfl, z, T.c_Block, dz, _, _, rfl, hz, T.C_Block, T.n_Block_rounds, rfl, yf, T.c_Form, df, _, _, rfl, hf, T.C_Form, T.n_Form_by, rfl, _, _, rfl, rfl, .inr ⟨by omega, by omega⟩, ?_⟩
      refine ⟨_, rfl, _, rfl, _, _, rfl, rfl, .inl ⟨by split <;> omega, by split <;> omega⟩, _, _, rfl, rfl, ?_⟩
      refine ⟨_, rfl, _, rfl, z, T.c_Block, dz, _, _, rfl, hz, T.C_Block, T.n_Block_rounds, rfl, yf, T.c_Form, df, _, _, rfl, hf, T.C_Form, T.n_Form_by, rfl, _, _, rfl, rfl, .inr ⟨by omega, by omega⟩, ?_⟩
      refine ⟨_, _, rfl, some (.ref z), some (.int (if d.t > 0 then d.t else 0)), ?_, rfl⟩
      have e : paceS (ds.take (i + 1)) = paceT (paceS (ds.take i)) d := by
        unfold paceS
        rw [take_snoc ed, List.foldl_append]
        rfl
      rw [e]
      rfl
    · obtain ⟨y3, y4, rfl, rfl⟩ := hP
      rw [lb, List.take_length]
      dsimp only
      refine asg_go ?_
      refine ⟨_, rfl, _, rfl, _, _, rfl, ?_⟩
      dsimp only [gName]
      refine ret_go ?_
      have gp : 0 < Nat.gcd (paceS ds).1.natAbs (paceS ds).2.natAbs := Nat.gcd_pos_of_pos_right _ (by omega)
      have gl : Nat.gcd (paceS ds).1.natAbs (paceS ds).2.natAbs ≤ (paceS ds).2.natAbs := Nat.gcd_le_right _ (by omega)
      have cd : ∀ i : Int, CDiv i ((Nat.gcd (paceS ds).1.natAbs (paceS ds).2.natAbs : Nat) : Int) := fun i => ⟨by omega, by omega⟩
      refine ⟨_, rfl, _, rfl, _, _, rfl, rfl, cd _, _, rfl, _, rfl, _, _, rfl, rfl, cd _, szL (Nat.le_of_ble_eq_true rfl), fun p2 np2 => ?_⟩
      exact k p2 _ (s1.trans (same_new np2)) upd_same
/-! the hops -/
def hopsS (ds : List BD) (n : Int) : Int := (ds.map fun d => (d.ls.length : Int) * (if valP d n > 0 then valP d n else 0)).sum
def spHops (K : PySem.W.Frag) (CP CB CL CF : Addr) : Sp := fun vs H Q _ => ∃ (u : V) (ds : List BD) (n : Int), vs = [u, .int n] ∧ PlanE K CP CB CL CF H u ds ∧ (∀ d ∈ ds, BI d) ∧ ds.length ≤ 10 ∧ 0 ≤ n ∧ n ≤ 1000 ∧ ∀ H', Same H H' → Q (.int (hopsS ds n)) H'
theorem hops_bound {ds : List BD} {n : Int} : (∀ d ∈ ds, BI d) → 0 ≤ hopsS ds n := by
  intro h
  unfold hopsS
  induction ds with
  | nil => exact Int.le_refl _
  | cons d ds ih =>
    rw [List.map_cons, List.sum_cons]
    have a := ih fun z hz => h z (List.mem_cons_of_mem _ hz)
    have b : 0 ≤ (d.ls.length : Int) * (if valP d n > 0 then valP d n else 0) := Int.mul_nonneg (by omega) (by split <;> omega)
    omega
theorem ok_hops (T : Txt K mg) : FnOk P w K mg base CX0 2 T.a_hops T.d_hops ["plan", "n"] (spHops K T.c_Plan T.c_Block T.c_Lane T.c_Form) := by
  have R_call : FnR P w K mg base CX0 1 T.a_Form___call__ (spFCall T.c_Form) := fnR (ok_fcall T) T.b_Form___call__
  refine T.F_hops.ok sc_hops (fun vs H Q E h => ?_) (fun cdv A outer s H vs Q E hr h => ?_)
  · obtain ⟨u, ds, n, rfl, _⟩ := h
    rfl
  · obtain ⟨u, ds, n, rfl, ⟨x, dx, tp, bs, dd, rfl, hx, ht, hbs⟩, bis, ld, n0, n1, k⟩ := h
    have nd := sc_hops.nd
    refine ⟨_, (pss_one (ps_ret (pe_callB (cr_sum rfl) (by rfl) T.z_sum (by decide +kernel) (pa_cons (pe_lc (own := [("block", 2)]) (g := (gName 2)) (by rfl) nd (pi_tup (pe_fld (pv 0) rfl)) (blkOk_by (N := ["plan", "n", "block"]) (sc := defScope s_hops) (own := [("block", 2)]) (by decide +kernel)) (fun _ _ _ _ _ => by exact (pg_name (i := 2) nd rfl (Or.inl rfl))) (fun _ _ _ _ _ => by exact pts_nil) (fun _ _ _ _ _ => by exact (pe_op op_mul (pe_callB (call_len_seqK (K := K) rfl) (by rfl) T.z_len (by decide +kernel) (pa_cons (pe_fldK (K := K) rfl (pv 2) rfl) pa_nil)) (pe_callB (call_max2 rfl) (by rfl) T.z_max (by decide +kernel) (pa_cons pe_int (pa_cons (pe_callTy call_int1 (by rfl) T.z_int (by decide +kernel) (pa_cons (pe_callF (K := K) rfl (pv 2) T.M_Form___call__ T.fn_Form___call__ R_call (hr.mono (by decide)) pass0 (pa_cons (pv 1) pa_nil)) pa_nil)) pa_nil)))))) pa_nil)))), ?_⟩
    have ht' := ht.t
    have lb := hbs.length
    refine ret_go ?_
    refine ⟨_, rfl, x, _, dx, _, _, rfl, hx, T.C_Plan, T.n_Plan_blocks, rfl, tp, rfl, ⟨bs, ht'⟩, fun D nD => ?_⟩
    refine lc_tup (xs := bs) (fun i Hc => Hc D = some (.lst (((ds.take i).map fun d => (d.ls.length : Int) * (if valP d n > 0 then valP d n else 0)).map V.int)) ∧ Same H Hc) ⟨upd_same, same_new nD⟩ (fun i Hc _ hP => Same.seqT hP.2 ht') (fun i v Hc hv hP => ?_) (fun Hc hP => ?_)
    · obtain ⟨hD, sc⟩ := hP
      obtain ⟨d, ed, hd⟩ := hbs.get hv
      obtain ⟨z, dz, yf, tz, us, rfl, hz, ⟨df, hf⟩, htz, hls, di⟩ := hd.same sc
      have r := di.r
      have cm : CMul d.t n := .inl ⟨by have := r.t1; omega, by have := r.t2; omega⟩
      have hv : (if valP d n > 0 then valP d n else 0) = (if (d.t * n + d.q).fdiv d.c > 0 then (d.t * n + d.q).fdiv d.c else 0) := rfl
      refine ⟨rfl, _, rfl, z, T.c_Block, dz, _, _, rfl, hz, T.C_Block, T.n_Block_lanes, rfl, tz, us, rfl, .inr (SqT.of htz), ?_⟩
      refine ⟨_, rfl, z, T.c_Block, dz, _, _, rfl, hz, T.C_Block, T.n_Block_rounds, rfl, yf, df, _, rfl, hf, _, rfl, ⟨df, _, hf⟩, yf, d.t, d.q, d.c, n, rfl, ⟨df, hf⟩, cm, r.c1, by have := r.c2; omega, ?_⟩
      refine .inl ⟨_, rfl, _, _, rfl, _, _, rfl, rfl, .inl ⟨by omega, by have := di.l1; have := hls.length; omega⟩, ?_⟩
      have li := (List.getElem?_eq_some_iff.mp ed).1
      refine ⟨_, hD, szL2 (by rw [List.length_map, List.length_map, List.length_take]; omega), ?_, same_lst sc nD⟩
      rw [upd_same, take_snoc ed, List.map_append, List.map_append, hls.length]
      rfl
    · obtain ⟨hD, sc⟩ := hP
      rw [lb, List.take_length] at hD
      refine ⟨D, _, rfl, .inl (.inl hD), ?_⟩
      exact k _ sc

end
end K55
namespace K55
open PySem PySem.Spec PyProof.Rows L2 Rs
local macro_rules | `(tactic| walk_at "om") => `(tactic| first | omega | (dsimp only; omega))
local macro_rules | `(tactic| walk_at "side") => `(tactic| first | omega | (dsimp only; omega) | decide | (unfold CMul; omega) | (unfold CDiv; omega) | (unfold CPow; omega) | exact wide_div (b := 64) (by omega) (by omega) (by decide) (by decide))
local macro_rules | `(tactic| walk_at "hp") => `(tactic| first | assumption | exact upd_same)
local macro_rules | `(tactic| walk_at "sq") => `(tactic| first | assumption | exact SqL.of (by assumption) | exact SqL.of upd_same)
local macro_rules | `(tactic| walk_at "st") => `(tactic| first
  | refine ⟨_, rfl, ?_⟩
  | (refine ⟨_, _, rfl, rfl, And.intro ?side ?_⟩; (case side => walk_at "side"))
  | refine ⟨_, _, rfl, rfl, ?_⟩
  | (refine' ⟨_, _, _, _, rfl, rfl, SqL.of ?hp, ?atx, ?_⟩; (case hp => walk_at "hp"); (case atx => exact rfl))
  | (refine' ⟨_, _, _, _, rfl, rfl, ?hp, ?atx, ?_⟩; (case hp => walk_at "hp"); (case atx => exact rfl))
  | (refine' ⟨_, _, rfl, Or.inl ?sq, ?_⟩; (case sq => walk_at "sq"))
  | refine Or.inl ⟨_, rfl, ?_⟩
  | refine Or.inr ⟨_, rfl, ?_⟩)
local macro_rules | `(tactic| walk_at "evd") => `(tactic| first
  | exact evd_int
  | exact evd_str
  | exact evd_non
  | exact evd_bl
  | exact evd_nil
  | (refine evd_cons ?_ (fun _ => ?_) <;> walk_at "evd")
  | (refine evd_tup ?_ (Nat.le_of_ble_eq_true rfl); walk_at "evd"))

section
variable {P : Program} {w : World} {K : PySem.W.Frag} {mg : Str → Option Value} {base : Heap}
/-! the law's own pace -/
def spValue (K : PySem.W.Frag) : Sp := fun vs H Q _ => ∃ (p : Addr) (t q c n : Int), vs = [.ref p, .int n] ∧ SqT K H p [.int t, .int q, .int c] ∧ CMul t n ∧ 1 ≤ c ∧ c < 1000 ∧ Q (.int ((t * n + q).fdiv c)) H
theorem ok_value (T : Txt K mg) : FnOk P w K mg base CX0 1 T.a__law_value T.d__law_value ["_law_form_here", "_law_n"] (spValue K) := by
  refine T.F__law_value.ok sc__law_value (fun vs H Q E h => ?_) (fun cdv A outer s H vs Q E hr h => ?_)
  · obtain ⟨p, t, q, c, n, rfl, _⟩ := h
    rfl
  · obtain ⟨p, t, q, c, n, rfl, hp, cm, c1, c2, k⟩ := h
    have nd := sc__law_value.nd
    refine ⟨_, (pss_one (ps_ret (pe_op op_fdiv (pe_callTy call_int1 (by rfl) T.z_int (by decide +kernel) (pa_cons (pe_op op_add (pe_op op_mul (pe_ix ix_tup (pv 0) pe_int (fun _ _ => rfl)) (pv 1)) (pe_ix ix_tup (pv 0) pe_int (fun _ _ => rfl))) pa_nil)) (pe_callTy call_int1 (by rfl) T.z_int (by decide +kernel) (pa_cons (pe_ix ix_tup (pv 0) pe_int (fun _ _ => rfl)) pa_nil))))), ?_⟩
    refine ret_go ?_
    rw [Int.fdiv_eq_ediv_of_nonneg _ (by omega)] at k
    exact ⟨_, rfl, _, _, _, _, rfl, rfl, hp, rfl, _, rfl, t, n, rfl, rfl, cm, _, rfl, _, _, _, _, rfl, rfl, hp, rfl, _, _, rfl, rfl, .inl ⟨_, rfl, _, rfl, _, _, _, _, rfl, rfl, hp, rfl, .inl ⟨_, rfl, _, c, rfl, rfl, ⟨by omega, by omega⟩, k⟩⟩⟩
def lastI2 : Option (Option V) → Nat
  | some (some (V.int e)) => e.toNat
  | _ => 0
def spPart : Sp := fun vs H Q _ => ∃ (a b : Int), vs = [.int a, .int b] ∧ 0 ≤ a ∧ 0 ≤ b ∧ b < 1073741824 ∧ Q (.int (Int.gcd a b : Int)) H
theorem ok_part (T : Txt K mg) : FnOk P w K mg base CX0 1 T.a__law_part T.d__law_part ["_law_one", "_law_other"] spPart := by
  refine T.F__law_part.ok sc__law_part (fun vs H Q E h => ?_) (fun cdv A outer s H vs Q E hr h => ?_)
  · obtain ⟨a, b, rfl, _⟩ := h
    rfl
  · obtain ⟨a, b, rfl, a0, b0, b1, k⟩ := h
    have nd := sc__law_part.nd
    refine ⟨_, (pss_cons (ps_while PassesOwn.never (pt_cmpR op_ne (pv 1) pe_int (nomark _)) (pss_one (ps_par (i := 0) (j := 1) (by rfl) nd rfl rfl (by decide) rfl rfl (pa_cons (pv 1) (pa_cons (pe_op op_mod (pe_callTy call_int1 (by rfl) T.z_int (by decide +kernel) (pa_cons (pv 0) pa_nil)) (pv 1)) pa_nil)) (by rfl))))
    (pss_one (ps_ret (pv 0)))), ?_⟩
    refine seq_k (C := fun σ' H' => H' = H ∧ σ' = [some (.int (Int.gcd a b : Int)), some (.int 0)]) (fun σ' H' hC => ?fin) (fun R hR => ?_)
    case fin =>
      obtain ⟨rfl, rfl⟩ := hC
      exact ret_go ⟨_, rfl, k⟩
    refine while_by (fun σ Hc => Hc = H ∧ ∃ x y : Int, σ = [some (.int x), some (.int y)] ∧ 0 ≤ x ∧ 0 ≤ y ∧ Int.gcd x y = Int.gcd a b)
      (fun σ _ => lastI2 σ[1]?) ⟨rfl, a, b, rfl, a0, b0, rfl⟩ (fun σ Hc hP => ?_) ?_
    · obtain ⟨rfl, x, y, rfl, x0, y0, eg⟩ := hP
      refine ⟨_, rfl, rfl, _, rfl, ?_⟩
      by_cases z : y = 0
      · refine ifF (by rw [z]; rfl) ?_
        subst z
        refine hR _ _ ⟨rfl, ?_⟩
        rw [← eg, Int.gcd_zero_right]
        have : (x.natAbs : Int) = x := by omega
        rw [this]
      · refine ifT (by rw [decide_eq_false (fun e => z (by injection e))]; rfl) ?_
        refine ⟨_, rfl, _, rfl, .inl ⟨_, rfl, _, rfl, _, _, rfl, rfl, by omega, _, _, rfl, ?_⟩⟩
        have m0 := Int.emod_nonneg x z
        have m1 := Int.emod_lt_of_pos x (show 0 < y by omega)
        refine ⟨⟨rfl, y, x % y, rfl, y0, m0, ?_⟩, ?_⟩
        · rw [← eg]
          obtain ⟨x', rfl⟩ := Int.eq_ofNat_of_zero_le x0
          obtain ⟨y', rfl⟩ := Int.eq_ofNat_of_zero_le y0
          show Nat.gcd y' ((x' : Int) % (y' : Int)).natAbs = Nat.gcd x' y'
          have e : ((x' : Int) % (y' : Int)).natAbs = x' % y' := rfl
          rw [e, Nat.gcd_comm x' y', Nat.gcd_rec y' x', Nat.gcd_comm]
        · show (x % y).toNat < y.toNat
          omega
    · intro σ H Q Q' m h
      obtain ⟨v, hv, sc, b, hb, h⟩ := h
      exact ⟨v, hv, sc, b, hb, m _ _ h⟩
def spLPace (K : PySem.W.Frag) : Sp := fun vs H Q _ => ∃ (a b : Addr) (bs : List V) (ds : List BD), vs = [.ref a] ∧ H a = some (.lst bs) ∧ AllR (BlockV b H) bs ds ∧ 0 < (paceS ds).2 ∧ (paceS ds).2 < 1073741824 ∧
  ∀ p H', Same H H' → H' p = some (.tup [.int ((paceS ds).1 / Int.gcd (paceS ds).1 (paceS ds).2), .int ((paceS ds).2 / Int.gcd (paceS ds).1 (paceS ds).2)]) → Q (.ref p) H'
theorem pace_pos : ∀ {ds : List BD}, (∀ d ∈ ds, BI d) → ∀ s : Int × Int, 0 ≤ s.1 ∧ 0 ≤ s.2 → 0 ≤ (ds.foldl paceT s).1 ∧ 0 ≤ (ds.foldl paceT s).2
  | [], _, _, h => h
  | d :: ds, h, s, hs => by
    have c1 := (h d (List.mem_cons_self ..)).r.c1
    refine pace_pos (ds := ds) (fun z hz => h z (List.mem_cons_of_mem _ hz)) (paceT s d) ⟨?_, ?_⟩
    · show 0 ≤ s.1 * d.c + (if d.t > 0 then d.t else 0) * s.2
      have a := Int.mul_nonneg hs.1 (show 0 ≤ d.c by omega)
      have b := Int.mul_nonneg (show 0 ≤ (if d.t > 0 then d.t else 0) by split <;> omega) hs.2
      omega
    · exact Int.mul_nonneg hs.2 (by omega)
theorem ok_lpace (T : Txt K mg) : FnOk P w K mg base CX0 2 T.a__law_pace T.d__law_pace ["_law_drawn"] (spLPace K) := by
  have G__law_part : FnOk P w K mg base CX0 1 T.a__law_part T.d__law_part ["_law_one", "_law_other"] spPart := ok_part T
  refine T.F__law_pace.ok sc__law_pace (fun vs H Q E h => ?_) (fun cdv A outer s H vs Q E hr h => ?_)
  · obtain ⟨a, b, bs, ds, rfl, _⟩ := h
    rfl
  · obtain ⟨a, b, bs, ds, rfl, ha, hbs, l0, l1, k⟩ := h
    have nd := sc__law_pace.nd
    refine ⟨_, (pss_cons (ps_asg (pe_tup (pa_cons pe_int (pa_cons pe_int pa_nil))) (pg_tup rfl (pgs_cons (pg_name (i := 1) nd rfl (Or.inl rfl)) (pgs_cons (pg_name (i := 2) nd rfl (Or.inl rfl)) pgs_nil))))
    (pss_cons (ps_for PassesOwn.never rfl (pi_list (pv 0)) (pg_tup rfl (pgs_cons (pg_name (i := 3) nd rfl (Or.inl rfl)) (pgs_cons (pg_name (i := 4) nd rfl (Or.inl rfl)) pgs_nil)))
    (pss_one (ps_par (i := 1) (j := 2) (by rfl) nd rfl rfl (by decide) rfl rfl (pa_cons (pe_callTy call_int1 (by rfl) T.z_int (by decide +kernel) (pa_cons (pe_op op_add (pe_op op_mul (pv 1) (pe_ix ix_tup (pv 3) pe_int (fun _ _ => rfl))) (pe_op op_mul (pe_callB (call_max2 rfl) (by rfl) T.z_max (by decide +kernel) (pa_cons pe_int (pa_cons (pe_callTy call_int1 (by rfl) T.z_int (by decide +kernel) (pa_cons (pe_ix ix_tup (pv 3) pe_int (fun _ _ => rfl)) pa_nil)) pa_nil))) (pv 2))) pa_nil)) (pa_cons (pe_callTy call_int1 (by rfl) T.z_int (by decide +kernel) (pa_cons (pe_op op_mul (pv 2) (pe_ix ix_tup (pv 3) pe_int (fun _ _ => rfl))) pa_nil)) pa_nil)) (by rfl))))
    (pss_cons (ps_set (i := 5) nd rfl (Or.inl rfl) (pe_call G__law_part (hr.mono (by first | decide | omega)) (by rfl) T.m__law_part T.k__law_part T.b__law_part .nil pass0 (pa_cons (pv 1) (pa_cons (pv 2) pa_nil))))
    (pss_one (ps_ret (pe_tup (pa_cons (pe_op op_fdiv (pv 1) (pv 5)) (pa_cons (pe_op op_fdiv (pv 2) (pv 5)) pa_nil)))))))), ?_⟩
    have bis := di_all hbs
    have lb := hbs.length
    refine asg_go ?_
    refine ⟨szL (Nat.le_of_ble_eq_true rfl), fun p np => ?_⟩
    have s1 := same_new (o := .tup [.int 0, .int 1]) np
    refine ⟨p, _, rfl, SqT.of upd_same, rfl, _, _, rfl, _, _, rfl, rfl, ?_⟩
    generalize upd H p (.tup [.int 0, .int 1]) = H1 at s1 ⊢
    dsimp only [gName]
    refine ⟨_, rfl, a, rfl, ⟨bs, SqL.of (s1 _ _ ha)⟩, for_list (xs := bs) (fun i σ Hc => ∃ y3 y4, σ = [some (.ref a), some (.int (paceS (ds.take i)).1), some (.int (paceS (ds.take i)).2), y3, y4, none] ∧ Hc = H1) ⟨none, none, rfl, rfl⟩ (fun i σ Hc _ hP => by obtain ⟨_, _, _, rfl⟩ := hP; exact SqL.of (s1 _ _ ha)) (fun i v σ Hc hv hP => ?_) (fun σ Hc hP => ?_)⟩
    · obtain ⟨y3, y4, rfl, rfl⟩ := hP
      obtain ⟨d, ed, hd⟩ := hbs.get hv
      obtain ⟨q, f, L, vs, rfl, hq, hf, _, hL, hvs, di⟩ := hd.same s1
      have r := di.r
      have t1 := r.t1
      have t2 := r.t2
      have c1 := r.c1
      have c2 := r.c2
      refine ⟨q, _, rfl, SqT.of hq, rfl, _, _, rfl, _, _, rfl, rfl, ?_⟩
      dsimp only [gName]
      refine ⟨_, rfl, _, rfl, _, _, _, _, rfl, rfl, SqT.of hf, rfl, _, _, rfl, rfl, .inr ⟨by omega, by omega⟩, ?_⟩
      refine ⟨_, rfl, _, _, _, _, rfl, rfl, SqT.of hf, rfl, .inl ⟨_, rfl, _, _, rfl, _, rfl, _, _, rfl, rfl, .inl ⟨by split <;> omega, by split <;> omega⟩, _, _, rfl, rfl, .inl ⟨_, rfl, ?_⟩⟩⟩
      refine ⟨_, rfl, _, rfl, _, _, _, _, rfl, rfl, SqT.of hf, rfl, _, _, rfl, rfl, .inr ⟨by omega, by omega⟩, .inl ⟨_, rfl, _, _, rfl, ?_⟩⟩
      refine ⟨some (.ref f), some (.ref L), ?_, rfl⟩
      have e : paceS (ds.take (i + 1)) = paceT (paceS (ds.take i)) d := by
        unfold paceS
        rw [take_snoc ed, List.foldl_append]
        rfl
      rw [e]
      rfl
    · obtain ⟨y3, y4, rfl, rfl⟩ := hP
      rw [lb, List.take_length]
      dsimp only
      refine asg_go ?_
      have pp := pace_pos bis (0, 1) ⟨by decide, by decide⟩
      refine ⟨_, rfl, _, rfl, _, _, rfl, pp.1, pp.2, l1, ?_⟩
      dsimp only [gName]
      refine ret_go ?_
      have gp : 0 < Nat.gcd (paceS ds).1.natAbs (paceS ds).2.natAbs := Nat.gcd_pos_of_pos_right _ (by omega)
      have gl : Nat.gcd (paceS ds).1.natAbs (paceS ds).2.natAbs ≤ (paceS ds).2.natAbs := Nat.gcd_le_right _ (by omega)
      have cd : ∀ i : Int, CDiv i (Int.gcd (paceS ds).1 (paceS ds).2 : Int) := fun i => ⟨by show 0 < ((Nat.gcd _ _ : Nat) : Int); omega, by show ((Nat.gcd _ _ : Nat) : Int) < _; omega⟩
      refine ⟨_, rfl, _, rfl, _, _, rfl, rfl, cd _, _, rfl, _, rfl, _, _, rfl, rfl, cd _, szL (Nat.le_of_ble_eq_true rfl), fun p2 np2 => ?_⟩
      exact k p2 _ (s1.trans (same_new np2)) upd_same

end
end K55
namespace K55
open PySem PySem.Spec PyProof.Rows L2 Rs
local macro_rules | `(tactic| walk_at "om") => `(tactic| first | omega | (dsimp only; omega))
local macro_rules | `(tactic| walk_at "side") => `(tactic| first | omega | (dsimp only; omega) | decide | (unfold CMul; omega) | (unfold CDiv; omega) | (unfold CPow; omega) | exact wide_div (b := 64) (by omega) (by omega) (by decide) (by decide))
local macro_rules | `(tactic| walk_at "hp") => `(tactic| first | assumption | exact upd_same)
local macro_rules | `(tactic| walk_at "sq") => `(tactic| first | assumption | exact SqL.of (by assumption) | exact SqL.of upd_same)
local macro_rules | `(tactic| walk_at "st") => `(tactic| first
  | refine ⟨_, rfl, ?_⟩
  | (refine ⟨_, _, rfl, rfl, And.intro ?side ?_⟩; (case side => walk_at "side"))
  | refine ⟨_, _, rfl, rfl, ?_⟩
  | (refine' ⟨_, _, _, _, rfl, rfl, SqL.of ?hp, ?atx, ?_⟩; (case hp => walk_at "hp"); (case atx => exact rfl))
  | (refine' ⟨_, _, _, _, rfl, rfl, ?hp, ?atx, ?_⟩; (case hp => walk_at "hp"); (case atx => exact rfl))
  | (refine' ⟨_, _, rfl, Or.inl ?sq, ?_⟩; (case sq => walk_at "sq"))
  | refine Or.inl ⟨_, rfl, ?_⟩
  | refine Or.inr ⟨_, rfl, ?_⟩)
local macro_rules | `(tactic| walk_at "evd") => `(tactic| first
  | exact evd_int
  | exact evd_str
  | exact evd_non
  | exact evd_bl
  | exact evd_nil
  | (refine evd_cons ?_ (fun _ => ?_) <;> walk_at "evd")
  | (refine evd_tup ?_ (Nat.le_of_ble_eq_true rfl); walk_at "evd"))

section
variable {P : Program} {w : World} {K : PySem.W.Frag} {mg : Str → Option Value} {base : Heap}
mutual
/-- a value and its data; no list of it stands where S says -/
inductive Da (S : Addr → Prop) (H : Hp) : V → PyData → Prop
  | non : Da S H .non .none
  | bl (b : Bool) : Da S H (.bl b) (.bool b)
  | int (i : Int) : Da S H (.int i) (.int i)
  | str (x : Str) : Da S H (.str x) (.str x)
  | lst {a : Addr} {xs : List V} {ds : List PyData} : ¬ S a → H a = some (.lst xs) → DaAll S H xs ds → Da S H (.ref a) (.list ds)
  | tup {a : Addr} {xs : List V} {ds : List PyData} : H a = some (.tup xs) → DaAll S H xs ds → Da S H (.ref a) (.tuple ds)
inductive DaAll (S : Addr → Prop) (H : Hp) : List V → List PyData → Prop
  | nil : DaAll S H [] []
  | cons {v : V} {vs : List V} {d : PyData} {ds : List PyData} : Da S H v d → DaAll S H vs ds → DaAll S H (v :: vs) (d :: ds)
end
section
variable {S S' : Addr → Prop} {H H' : Hp}
mutual
theorem Da.mono (hS : ∀ a, S' a → S a) (hL : ∀ a xs, ¬ S a → H a = some (.lst xs) → H' a = some (.lst xs)) (hT : ∀ a xs, H a = some (.tup xs) → H' a = some (.tup xs)) : ∀ (d : PyData) (v : V), Da S H v d → Da S' H' v d
  | .none, _, h => by cases h; exact .non
  | .bool _, _, h => by cases h; exact .bl _
  | .int _, _, h => by cases h; exact .int _
  | .str _, _, h => by cases h; exact .str _
  | .list ds, _, h => by
    cases h with
    | lst n e a => exact .lst (fun z => n (hS _ z)) (hL _ _ n e) (DaAll.mono hS hL hT ds _ a)
  | .tuple ds, _, h => by
    cases h with
    | tup e a => exact .tup (hT _ _ e) (DaAll.mono hS hL hT ds _ a)
  | .dict _, _, h => nomatch h
theorem DaAll.mono (hS : ∀ a, S' a → S a) (hL : ∀ a xs, ¬ S a → H a = some (.lst xs) → H' a = some (.lst xs)) (hT : ∀ a xs, H a = some (.tup xs) → H' a = some (.tup xs)) : ∀ (ds : List PyData) (vs : List V), DaAll S H vs ds → DaAll S' H' vs ds
  | [], _, h => by cases h; exact .nil
  | d :: ds, _, h => by
    cases h with
    | cons a b => exact .cons (Da.mono hS hL hT d _ a) (DaAll.mono hS hL hT ds _ b)
end
mutual
theorem Da.dp : ∀ (d : PyData) (v : V), Da S H v d → Dp K H v d
  | .none, _, h => by cases h; exact .non
  | .bool _, _, h => by cases h; exact .bl _
  | .int _, _, h => by cases h; exact .int _
  | .str _, _, h => by cases h; exact .str _
  | .list ds, _, h => by
    cases h with
    | lst n e a => exact .lst (SqL.of e) (DaAll.dp ds _ a)
  | .tuple ds, _, h => by
    cases h with
    | tup e a => exact .tup (SqT.of e) (DaAll.dp ds _ a)
  | .dict _, _, h => nomatch h
theorem DaAll.dp : ∀ (ds : List PyData) (vs : List V), DaAll S H vs ds → DpAll K H vs ds
  | [], _, h => by cases h; exact .nil
  | d :: ds, _, h => by
    cases h with
    | cons a b => exact .cons (Da.dp d _ a) (DaAll.dp ds _ b)
end
theorem DaAll.snoc {vs : List V} {ds : List PyData} {v : V} {d : PyData} : DaAll S H vs ds → Da S H v d → DaAll S H (vs ++ [v]) (ds ++ [d]) := by
  induction vs generalizing ds with
  | nil => intro h z; cases h; exact .cons z .nil
  | cons x vs ih => intro h z; cases h with | cons a b => exact .cons a (ih b z)
theorem DaAll.length {vs : List V} {ds : List PyData} : DaAll S H vs ds → vs.length = ds.length := by
  induction vs generalizing ds with
  | nil => intro h; cases h; rfl
  | cons x vs ih => intro h; cases h with | cons a b => rw [List.length_cons, List.length_cons, ih b]
end
/-- data of at most n levels, with a text that is not long -/
structure Sm (n : Nat) (d : PyData) : Prop where
  sh : d.showable = true
  nd : d.hasDict = false
  dp : d.depth ≤ n
  ln : d.shown.length ≤ 30 * 4 ^ n
theorem Sm.up {n m : Nat} {d : PyData} (h : Sm n d) (l : n ≤ m) : Sm m d := ⟨h.sh, h.nd, Nat.le_trans h.dp l, Nat.le_trans h.ln (Nat.mul_le_mul_left _ (Nat.pow_le_pow_right (by decide) l))⟩
theorem sm_all {n : Nat} : ∀ {ds : List PyData}, (∀ d ∈ ds, Sm n d) → PyData.showableAll ds = true ∧ PyData.hasDictAll ds = false ∧ PyData.depthAll ds ≤ n ∧ (PyData.shownAll ds).length = ds.length ∧ ∀ t ∈ PyData.shownAll ds, t.length ≤ 30 * 4 ^ n
  | [], _ => ⟨rfl, rfl, Nat.zero_le _, rfl, fun _ h => nomatch h⟩
  | d :: ds, h => by
    obtain ⟨a1, a2, a3, a4, a5⟩ := sm_all (ds := ds) fun z hz => h z (List.mem_cons_of_mem _ hz)
    have s := h d (List.mem_cons_self ..)
    refine ⟨?_, ?_, ?_, ?_, ?_⟩
    · show (d.showable && PyData.showableAll ds) = true
      rw [s.sh, a1]
      rfl
    · show (d.hasDict || PyData.hasDictAll ds) = false
      rw [s.nd, a2]
      rfl
    · show max d.depth (PyData.depthAll ds) ≤ n
      have := s.dp
      omega
    · show (d.shown :: PyData.shownAll ds).length = _
      rw [List.length_cons, List.length_cons, a4]
    · intro t ht
      rcases List.mem_cons.mp ht with ht | ht
      · subst ht
        exact s.ln
      · exact a5 t ht
theorem textFrom_le {m : Nat} : ∀ (ts : List Str) (k : Nat) (acc : Str), (∀ t ∈ ts, t.length ≤ m) → (textFrom k acc ts).length ≤ acc.length + ts.length * (m + 2)
  | [], k, acc, _ => Nat.le_add_right _ _
  | t :: r, k, acc, h => by
    have ih := textFrom_le r (k + 1) (acc ++ (if k > 0 then ", " else "" : String) ++ t) fun z hz => h z (List.mem_cons_of_mem _ hz)
    have a := h t (List.mem_cons_self ..)
    show (textFrom (k + 1) (acc ++ (if k > 0 then ", " else "" : String) ++ t) r).length ≤ _
    have b : (Str.ofString (if k > 0 then ", " else "" : String)).length ≤ 2 := by split <;> decide
    have c : (acc ++ (if k > 0 then ", " else "" : String) ++ t : Str).length = acc.length + (Str.ofString (if k > 0 then ", " else "" : String)).length + t.length := by
      rw [Str.length_append, Str.length_append]
    rw [c] at ih
    rw [List.length_cons, Nat.succ_mul]
    omega
theorem join_le {m : Nat} : ∀ (ts : List Str), (∀ t ∈ ts, t.length ≤ m) → (Str.join ", " ts).length ≤ ts.length * (m + 2)
  | [], _ => Nat.zero_le _
  | [x], h => by
    have := h x (List.mem_cons_self ..)
    show x.length ≤ 1 * (m + 2)
    omega
  | x :: y :: r, h => by
    have ih := join_le (y :: r) fun z hz => h z (List.mem_cons_of_mem _ hz)
    have a := h x (List.mem_cons_self ..)
    show (x ++ (", " : Str) ++ Str.join ", " (y :: r)).length ≤ _
    have b : (Str.ofString ", ").length = 2 := by decide
    rw [Str.length_append, Str.length_append, List.length_cons, Nat.succ_mul]
    omega
theorem sm_list {n : Nat} {ds : List PyData} (h : ∀ d ∈ ds, Sm n d) (l : ds.length ≤ 3) : Sm (n + 1) (.list ds) := by
  obtain ⟨a1, a2, a3, a4, a5⟩ := sm_all h
  refine ⟨a1, a2, Nat.succ_le_succ a3, ?_⟩
  show (textFrom 0 "[" (PyData.shownAll ds) ++ ("]" : Str)).length ≤ _
  have b := textFrom_le (PyData.shownAll ds) 0 "[" a5
  have c1 : (Str.ofString "[").length = 1 := by decide
  have c2 : (Str.ofString "]").length = 1 := by decide
  rw [Str.length_append]
  have p : 1 ≤ 4 ^ n := Nat.pow_le_pow_right (show 0 < 4 by decide) (Nat.zero_le n)
  have q : (PyData.shownAll ds).length * (30 * 4 ^ n + 2) ≤ 3 * (30 * 4 ^ n + 2) := Nat.mul_le_mul_right _ (by omega)
  rw [Nat.pow_succ]
  omega
theorem sm_tuple {n : Nat} {ds : List PyData} (h : ∀ d ∈ ds, Sm n d) (l : ds.length ≤ 3) : Sm (n + 1) (.tuple ds) := by
  obtain ⟨a1, a2, a3, a4, a5⟩ := sm_all h
  refine ⟨a1, a2, Nat.succ_le_succ a3, ?_⟩
  show (("(" : Str) ++ Str.join ", " (PyData.shownAll ds) ++ (if (PyData.shownAll ds).length == 1 then ",)" else ")" : String)).length ≤ _
  have b := join_le (PyData.shownAll ds) a5
  have c1 : (Str.ofString "(").length = 1 := by decide
  have c2 : (Str.ofString (if (PyData.shownAll ds).length == 1 then ",)" else ")" : String)).length ≤ 2 := by split <;> decide
  rw [Str.length_append, Str.length_append]
  have p : 1 ≤ 4 ^ n := Nat.pow_le_pow_right (show 0 < 4 by decide) (Nat.zero_le n)
  have q : (PyData.shownAll ds).length * (30 * 4 ^ n + 2) ≤ 3 * (30 * 4 ^ n + 2) := Nat.mul_le_mul_right _ (by omega)
  rw [Nat.pow_succ]
  omega
theorem sm_leaf {n : Nat} {d : PyData} (h1 : d.showable = true) (h2 : d.hasDict = false) (h3 : d.depth ≤ 1) (h4 : d.shown.length ≤ 120) : Sm (n + 1) d := Sm.up (n := 1) ⟨h1, h2, h3, h4⟩ (by omega)

/-! the law's usual plans: what is displayed, with its data -/
/-- a drawn block; its list of lanes stands nowhere where N says -/
def BlockN (N : Addr → Prop) (H : Hp) (v : V) (d : BD) : Prop := ∃ p f L vs, v = .ref p ∧ H p = some (.tup [.ref f, .ref L]) ∧ H f = some (.tup [.int d.t, .int d.q, .int d.c]) ∧ ¬ N L ∧ H L = some (.lst vs) ∧ AllR (LaneV H) vs d.ls ∧ BI d
theorem BlockN.v {N : Addr → Prop} {H : Hp} {v : V} {d : BD} {b : Addr} (h : BlockN N H v d) (nb : N b) : BlockV b H v d := by
  obtain ⟨p, f, L, vs, e, hp, hf, n, hL, a, i⟩ := h
  exact ⟨p, f, L, vs, e, hp, hf, fun z => n (by rw [z]; exact nb), hL, a, i⟩
theorem BlockN.off {N : Addr → Prop} {H : Hp} {v : V} {d : BD} {b : Addr} (h : BlockN N H v d) (nb : N b) : Off b H v := by
  obtain ⟨p, f, L, vs, e, hp, hf, n, hL, a, i⟩ := h
  exact ⟨p, .ref f, L, e, hp, fun z => n (by rw [z]; exact nb)⟩
theorem BlockN.same {N : Addr → Prop} {H H' : Hp} {v : V} {d : BD} (h : BlockN N H v d) (k : Same H H') : BlockN N H' v d := by
  obtain ⟨p, f, L, vs, e, hp, hf, n, hL, a, i⟩ := h
  exact ⟨p, f, L, vs, e, k _ _ hp, k _ _ hf, n, k _ _ hL, a.mono fun v l h => h.same k, i⟩
theorem BlockN.but {N : Addr → Prop} {b : Addr} {H H' : Hp} {v : V} {d : BD} (h : BlockN N H v d) (nb : N b) (B : Box H b) (k : But b H H') : BlockN N H' v d := by
  obtain ⟨p, f, L, vs, e, hp, hf, n, hL, a, i⟩ := h
  have z := B.fz k
  exact ⟨p, f, L, vs, e, z _ _ trivial hp, z _ _ trivial hf, n, k _ _ (fun z => n (by rw [z]; exact nb)) hL, a.mono fun v l h => h.fz z, i⟩
theorem BlockN.mono {N M : Addr → Prop} {H : Hp} {v : V} {d : BD} (h : BlockN N H v d) (k : ∀ a, M a → N a) : BlockN M H v d := by
  obtain ⟨p, f, L, vs, e, hp, hf, n, hL, a, i⟩ := h
  exact ⟨p, f, L, vs, e, hp, hf, fun z => n (k _ z), hL, a, i⟩
theorem BlockN.di {N : Addr → Prop} {H : Hp} {v : V} {d : BD} (h : BlockN N H v d) : BI d := by
  obtain ⟨p, f, L, vs, e, hp, hf, n, hL, a, i⟩ := h
  exact i
/-- a list of drawn blocks at F -/
def PlanN (N : Addr → Prop) (H : Hp) (F : Addr) (ds : List BD) : Prop := ∃ bs, H F = some (.lst bs) ∧ ¬ N F ∧ AllR (fun v d => BlockN N H v d ∧ Off F H v) bs ds
theorem PlanN.same {N : Addr → Prop} {H H' : Hp} {F : Addr} {ds : List BD} (h : PlanN N H F ds) (k : Same H H') : PlanN N H' F ds := by
  obtain ⟨bs, hF, n, a⟩ := h
  exact ⟨bs, k _ _ hF, n, a.mono fun v d h => ⟨h.1.same k, h.2.fz (Fz.of_same k)⟩⟩
theorem PlanN.but {N : Addr → Prop} {b : Addr} {H H' : Hp} {F : Addr} {ds : List BD} (h : PlanN N H F ds) (nb : N b) (B : Box H b) (k : But b H H') : PlanN N H' F ds := by
  obtain ⟨bs, hF, n, a⟩ := h
  exact ⟨bs, k _ _ (fun z => n (by rw [z]; exact nb)) hF, n, a.mono fun v d h => ⟨h.1.but nb B k, h.2.fz (B.fz k)⟩⟩
theorem evx_c {i : Int} {σ : L2.St} : EvI (tC (.int i)) σ i := ⟨fun _ _ q => q⟩
theorem evx_neg {i : Int} {σ : L2.St} : EvI (tUn (rU fun i => V.int (-i)) (tC (.int i))) σ (-i) := ⟨fun _ _ q => ⟨_, rfl, q⟩⟩
section
variable {σ : L2.St} {N : Addr → Prop} {H : Hp}
theorem evx_form {a b c : TE} {t q k : Int} (ha : EvI a σ t) (hb : EvI b σ q) (hc : EvI c σ k) (h : FB t q k) : EvP (tTup (tCons a (tCons b (tCons c tNil)))) σ H fun H v => FormV H v t q k := fun Q g =>
  ha.go _ _ (hb.go _ _ (hc.go _ _ ⟨szL (Nat.le_of_ble_eq_true rfl), fun p np => g _ _ (same_new np) ⟨p, rfl, upd_same, h⟩⟩))
theorem evx_lane {te : TE} {x y z : Str} {t q c : Int} (hf : EvP te σ H fun H v => FormV H v t q c) (hx : x ∈ ways) (hy : y ∈ signs) (hz : z ∈ deeds) : EvP (tTup (tCons (tC (.str x)) (tCons (tC (.str y)) (tCons te (tCons (tC (.str z)) tNil))))) σ H fun H v => LaneV H v ⟨x, y, t, q, c, z⟩ := fun Q g =>
  hf _ fun f H1 s1 d => ⟨szL (Nat.le_of_ble_eq_true rfl), fun p np => by
    obtain ⟨r, rfl, hr, fb⟩ := d
    exact g _ _ (s1.trans (same_new np)) ⟨p, r, rfl, upd_same, same_new np _ _ hr, ⟨hx, hy, hz, fb.t1, fb.t2, fb.q1, fb.q2, fb.c1, fb.c2⟩⟩⟩
/-- values one behind another -/
def EvL (ta : TA) (σ : L2.St) (H : Hp) {α : Type} (R : Hp → V → α → Prop) (ls : List α) : Prop := ∀ Q : List V → Hp → Prop, (∀ vs H', Same H H' → AllR (R H') vs ls → Q vs H') → ta σ H Q
theorem evl_nil {α : Type} {R : Hp → V → α → Prop} : EvL tNil σ H R [] := fun Q g => g _ _ (Same.refl _) .nil
theorem evl_cons {α : Type} {R : Hp → V → α → Prop} {te : TE} {ta : TA} {l : α} {ls : List α} (mono : ∀ H H' v l, Same H H' → R H v l → R H' v l) (h : EvP te σ H fun H v => R H v l) (q : ∀ H1, Same H H1 → EvL ta σ H1 R ls) : EvL (tCons te ta) σ H R (l :: ls) := fun Q g =>
  h _ fun v H1 s1 r => q H1 s1 _ fun vs H2 s2 rs => g _ _ (s1.trans s2) (.cons (mono _ _ _ _ s2 r) rs)
def LanesN (N : Addr → Prop) (ls : List LD) (H : Hp) (v : V) : Prop := ∃ L vs, v = .ref L ∧ ¬ N L ∧ H L = some (.lst vs) ∧ AllR (LaneV H) vs ls
theorem LanesN.same {H' : Hp} {ls : List LD} {v : V} (h : LanesN N ls H v) (s : Same H H') : LanesN N ls H' v := by
  obtain ⟨L, vs, e, n, hL, a⟩ := h
  exact ⟨L, vs, e, n, s _ _ hL, a.mono fun v l h => h.same s⟩
theorem lane_mono (H H' : Hp) (v : V) (l : LD) (s : Same H H') (h : LaneV H v l) : LaneV H' v l := h.same s
theorem new_not {H H' : Hp} {l : Addr} (hN : ∀ a, N a → H a ≠ none) (s : Same H H') (n : H' l = none) : ¬ N l := fun z => by
  cases e : H l with
  | none => exact hN _ z e
  | some o => rw [s _ _ e] at n; cases n
theorem evx_lanes {ta : TA} {ls : List LD} (hN : ∀ a, N a → H a ≠ none) (h : EvL ta σ H LaneV ls) (l : ls.length ≤ 1000) : EvP (tLst ta) σ H (LanesN N ls) := fun Q g =>
  h _ fun vs H1 s1 rs => ⟨szL (by rw [rs.length]; exact l), fun L nL => g _ _ (s1.trans (same_new nL)) ⟨L, vs, rfl, new_not hN s1 nL, upd_same, rs.mono fun v l h => h.same (same_new nL)⟩⟩
theorem evx_block {te tl : TE} {t q c : Int} {ls : List LD} (hf : EvP te σ H fun H v => FormV H v t q c) (hl : ∀ H1, Same H H1 → EvP tl σ H1 (LanesN N ls)) (l0 : 0 < ls.length) (l1 : ls.length ≤ 60) : EvP (tTup (tCons te (tCons tl tNil))) σ H fun H v => BlockN N H v ⟨t, q, c, ls⟩ := fun Q g =>
  hf _ fun f H1 s1 hf => hl H1 s1 _ fun L H2 s2 hL => ⟨szL (Nat.le_of_ble_eq_true rfl), fun p np => by
    obtain ⟨r, rfl, hr, fb⟩ := hf
    obtain ⟨a, vs, rfl, na, ha, hv⟩ := hL
    have s3 := same_new (o := .tup [.ref r, .ref a]) np
    have hli : ∀ l ∈ ls, LI l := by
      have go : ∀ {vs : List V} {ls : List LD}, AllR (LaneV H2) vs ls → ∀ l ∈ ls, LI l := by
        intro vs ls h
        induction h with
        | nil => intro l h; cases h
        | cons z _ ih =>
          intro l h
          rcases List.mem_cons.mp h with h | h
          · subst h
            obtain ⟨_, _, _, _, _, i⟩ := z
            exact i
          · exact ih l h
      exact go hv
    exact g _ _ ((s1.trans s2).trans s3) ⟨p, r, a, vs, rfl, upd_same, s3 _ _ (s2 _ _ hr), na, s3 _ _ ha, hv.mono fun v l h => h.same s3, ⟨fb, l0, l1, hli⟩⟩⟩
theorem blockN_mono (H H' : Hp) (v : V) (l : BD) (s : Same H H') (h : BlockN N H v l) : BlockN N H' v l := h.same s
theorem evx_plan {ta : TA} {ds : List BD} (hN : ∀ a, N a → H a ≠ none) (h : EvL ta σ H (BlockN N) ds) (l : ds.length ≤ 1000) : EvP (tLst ta) σ H fun H v => ∃ F, v = .ref F ∧ PlanN N H F ds := fun Q g =>
  h _ fun vs H1 s1 rs => ⟨szL (by rw [rs.length]; exact l), fun L nL => g _ _ (s1.trans (same_new nL)) ⟨L, rfl, vs, upd_same, new_not hN s1 nL, rs.mono fun v d h => by
    refine ⟨h.same (same_new nL), ?_⟩
    obtain ⟨p, f, M, vs, e, hp, hf, n, hM, a, i⟩ := h
    exact ⟨p, .ref f, M, e, same_new nL _ _ hp, ne_of_none hM nL⟩⟩⟩
end
theorem but_some {b : Addr} {H H2 : Hp} (B : Box H2 b) (k : But b H H2) : ∀ a, H a ≠ none → H2 a ≠ none := fun a n e => by
  by_cases c : a = b
  · subst c
    obtain ⟨x, y, z, hb, _⟩ := B
    rw [hb] at e
    cases e
  · cases e2 : H a with
    | none => exact n e2
    | some o => rw [k a _ c e2] at e; cases e
theorem Ns {N : Addr → Prop} {H H2 : Hp} (s : Same H H2) (hN : ∀ a, N a → H a ≠ none) : ∀ a, N a → H2 a ≠ none := fun a n e => by
  cases e2 : H a with
  | none => exact hN a n e2
  | some o => rw [s _ _ e2] at e; cases e
local macro_rules | `(tactic| walk_at "form") => `(tactic| (refine evx_form ?_ ?_ ?_ ?_ <;> first | exact evx_c | exact evx_neg | exact ⟨by decide, by decide, by decide, by decide, by decide, by decide⟩))

/-! lists of drawn blocks that grow -/
theorem BlockN.set {N : Addr → Prop} {H : Hp} {v : V} {d : BD} {F : Addr} {xs : List V} {o : HO} (h : BlockN N H v d) (f : Off F H v) (e : H F = some (.lst xs)) : BlockN N (upd H F o) v d ∧ Off F (upd H F o) v := by
  have z : Fz H (upd H F o) := Fz.lst e
  refine ⟨?_, f.fz z⟩
  obtain ⟨p, g, L, vs, rfl, hp, hf, n, hL, a, i⟩ := h
  obtain ⟨p', f', L', e', hp', n'⟩ := f
  cases e'
  rw [hp] at hp'
  have e2 := Option.some.inj hp'
  injection e2 with e2
  injection e2 with _ e2
  injection e2 with e2 _
  injection e2 with e2
  subst e2
  exact ⟨p, g, L, vs, rfl, z _ _ trivial hp, z _ _ trivial hf, n, by rw [upd_ne n']; exact hL, a.mono fun v l h => h.fz z, i⟩
theorem PlanN.snoc {N : Addr → Prop} {H : Hp} {F : Addr} {bs : List V} {ds : List BD} {v : V} {d : BD} (hF : H F = some (.lst bs)) (nF : ¬ N F) (ab : AllR (fun v d => BlockN N H v d ∧ Off F H v) bs ds) (hv : BlockN N H v d) (o : Off F H v) : PlanN N (upd H F (.lst (bs ++ [v]))) F (ds ++ [d]) :=
  ⟨bs ++ [v], upd_same, nF, AllR.snoc (ab.mono fun v d h => h.1.set h.2 hF) (hv.set o hF)⟩
theorem PlanN.nil {N : Addr → Prop} {H : Hp} {F : Addr} (hF : H F = some (.lst [])) (nF : ¬ N F) : PlanN N H F [] := ⟨[], hF, nF, .nil⟩
/-- a tuple of a form and a list of lanes -/
theorem blockN_new {N : Addr → Prop} {H : Hp} {p f L : Addr} {t q c : Int} {vs : List V} {ls : List LD} (np : H p = none) (hf : H f = some (.tup [.int t, .int q, .int c])) (fb : FB t q c) (nL : ¬ N L) (hL : H L = some (.lst vs)) (hv : AllR (LaneV H) vs ls) (l0 : 0 < ls.length) (l1 : ls.length ≤ 60) : BlockN N (upd H p (.tup [.ref f, .ref L])) (.ref p) ⟨t, q, c, ls⟩ := by
  have s3 := same_new (o := .tup [.ref f, .ref L]) np
  have hli : ∀ l ∈ ls, LI l := by
    have go : ∀ {vs : List V} {ls : List LD}, AllR (LaneV H) vs ls → ∀ l ∈ ls, LI l := by
      intro vs ls h
      induction h with
      | nil => intro l h; cases h
      | cons z _ ih =>
        intro l h
        rcases List.mem_cons.mp h with h | h
        · subst h
          obtain ⟨_, _, _, _, _, i⟩ := z
          exact i
        · exact ih l h
    exact go hv
  exact ⟨p, f, L, vs, rfl, upd_same, s3 _ _ hf, nL, s3 _ _ hL, hv.mono fun v l h => h.same s3, ⟨fb, l0, l1, hli⟩⟩

theorem sqT_fz {H H' : Hp} {a : Addr} {xs : List V} (h : SqT K H a xs) (k : Fz H H') : SqT K H' a xs := by
  rcases h with (hp | ⟨o', hp⟩) | hp
  · exact .inl (.inl (k _ _ trivial hp))
  · exact .inl (.inr ⟨o', k _ _ trivial hp⟩)
  · exact .inr hp
theorem TupE.fz {H H' : Hp} {a : Addr} {bs : List V} (h : TupE K H a bs) (k : Fz H H') : TupE K H' a bs := h.imp (k _ _ trivial) fun h => ⟨h.1, sqT_fz h.2 k⟩
theorem PlanE.fz {CP CB CL CF : Addr} {H H' : Hp} {v : V} {ds : List BD} (h : PlanE K CP CB CL CF H v ds) (k : Fz H H') : PlanE K CP CB CL CF H' v ds := by
  obtain ⟨x, dx, tp, bs, d, e, hx, ht, a⟩ := h
  exact ⟨x, dx, tp, bs, d, e, k _ _ trivial hx, ht.fz k, a.mono fun v l h => h.fz k⟩

structure SmallB (d : BD) : Prop where
  f : SmallF d.t d.q d.c
  l : d.ls.length ≤ 3
def bndN : Nat → Int × Int
  | 0 => (0, 1)
  | i + 1 => (5 * (bndN i).1 + 2 * (bndN i).2, 5 * (bndN i).2)
theorem pace_le : ∀ {ds : List BD} (i : Nat), (∀ d ∈ ds, SmallB d) → ∀ s : Int × Int, 0 ≤ s.1 ∧ s.1 ≤ (bndN i).1 ∧ 0 < s.2 ∧ s.2 ≤ (bndN i).2 → 0 ≤ (ds.foldl paceT s).1 ∧ (ds.foldl paceT s).1 ≤ (bndN (i + ds.length)).1 ∧ 0 < (ds.foldl paceT s).2 ∧ (ds.foldl paceT s).2 ≤ (bndN (i + ds.length)).2
  | [], _, _, _, h => h
  | d :: ds, i, h, s, hs => by
    have f := (h d (List.mem_cons_self ..)).f
    have c1 := f.c1
    have c2 := f.c2
    have t2 := f.t2
    obtain ⟨a, b, c, e⟩ := hs
    have z := pace_le (ds := ds) (i + 1) (fun z hz => h z (List.mem_cons_of_mem _ hz)) (paceT s d) ?_
    · rw [show i + (d :: ds).length = i + 1 + ds.length by rw [List.length_cons]; omega]
      exact z
    · have m1 : s.1 * d.c ≤ s.1 * 5 := Int.mul_le_mul_of_nonneg_left c2 a
      have m2 : 0 ≤ s.1 * d.c := Int.mul_nonneg a (by omega)
      have m3 : (if d.t > 0 then d.t else 0) * s.2 ≤ 2 * s.2 := Int.mul_le_mul_of_nonneg_right (by split <;> omega) (by omega)
      have m4 : 0 ≤ (if d.t > 0 then d.t else 0) * s.2 := Int.mul_nonneg (by split <;> omega) (by omega)
      have m5 : s.2 * d.c ≤ s.2 * 5 := Int.mul_le_mul_of_nonneg_left c2 (by omega)
      have m6 : 0 < s.2 * d.c := Int.mul_pos c (by omega)
      show 0 ≤ s.1 * d.c + (if d.t > 0 then d.t else 0) * s.2 ∧ s.1 * d.c + (if d.t > 0 then d.t else 0) * s.2 ≤ 5 * (bndN i).1 + 2 * (bndN i).2 ∧ 0 < s.2 * d.c ∧ s.2 * d.c ≤ 5 * (bndN i).2
      refine ⟨by omega, by omega, m6, by omega⟩
theorem bnd_six : ∀ i : Nat, i ≤ 6 → (bndN i).1 ≤ 10000000 ∧ (bndN i).2 ≤ 10000000
  | 0, _ => by decide
  | 1, _ => by decide
  | 2, _ => by decide
  | 3, _ => by decide
  | 4, _ => by decide
  | 5, _ => by decide
  | 6, _ => by decide
  | n + 7, h => by omega
theorem pace_small {ds : List BD} (l : ds.length ≤ 6) (h : ∀ d ∈ ds, SmallB d) : 0 ≤ (paceS ds).1 ∧ (paceS ds).1 ≤ 10000000 ∧ 0 < (paceS ds).2 ∧ (paceS ds).2 ≤ 10000000 := by
  have z := pace_le 0 h (0, 1) ⟨by decide, by decide, by decide, by decide⟩
  rw [Nat.zero_add] at z
  have y := bnd_six _ l
  obtain ⟨a, b, c, e⟩ := z
  exact ⟨a, Int.le_trans b y.1, c, Int.le_trans e y.2⟩
theorem hops_le {ds : List BD} {n : Int} (n0 : 0 ≤ n) (n1 : n ≤ 100) : (∀ d ∈ ds, SmallB d) → 0 ≤ hopsS ds n ∧ hopsS ds n ≤ (ds.length : Int) * 1000 := by
  intro h
  unfold hopsS
  induction ds with
  | nil => exact ⟨Int.le_refl _, Int.le_refl _⟩
  | cons d ds ih =>
    obtain ⟨a, b⟩ := ih fun z hz => h z (List.mem_cons_of_mem _ hz)
    have s := h d (List.mem_cons_self ..)
    have f := s.f
    have v : valP d n ≤ 300 := by
      unfold valP
      have c1 := f.c1
      have q2 := f.q2
      have m : d.t * n ≤ 2 * n := Int.mul_le_mul_of_nonneg_right f.t2 n0
      rw [Int.fdiv_eq_ediv_of_nonneg _ (by omega)]
      by_cases z : d.t * n + d.q ≤ 0
      · have := Int.ediv_le_ediv (by omega : (0 : Int) < d.c) z
        rw [Int.zero_ediv] at this
        omega
      · have := Int.ediv_le_self (a := d.t * n + d.q) d.c (by omega)
        omega
    have l := s.l
    have m1 : (d.ls.length : Int) * (if valP d n > 0 then valP d n else 0) ≤ 3 * 300 := Int.mul_le_mul (by omega) (by split <;> omega) (by split <;> omega) (by decide)
    have m2 : 0 ≤ (d.ls.length : Int) * (if valP d n > 0 then valP d n else 0) := Int.mul_nonneg (by omega) (by split <;> omega)
    rw [List.map_cons, List.sum_cons, List.length_cons]
    constructor
    · omega
    · have : ((ds.length + 1 : Nat) : Int) = (ds.length : Int) + 1 := by omega
      rw [this, Int.add_mul]
      omega
def pairD (a b : Int) : PyData := .tuple [.int a, .int b]
theorem pair_repr {H : Hp} {p : Addr} {a b : Int} {Q : VK} (h : H p = some (.tup [.int a, .int b])) (ha : Mid a) (hb : Mid b) (q : Q (.str (pairD a b).shown) H) : rRepr K [.ref p] H Q := by
  refine ⟨_, pairD a b, rfl, .tup (SqT.of h) (.cons (.int a) (.cons (.int b) .nil)), ?_, rfl, by show 1 ≤ 60; decide, ?_, q⟩
  · show (decide (a.natAbs.log2 < 1920) && (decide (b.natAbs.log2 < 1920) && true)) = true
    rw [decide_eq_true (log_small ha), decide_eq_true (log_small hb)]
    rfl
  · have z := join_le (m := 19) [(PyData.int a).shown, (PyData.int b).shown] (fun t ht => by
      simp only [List.mem_cons, List.not_mem_nil, or_false] at ht
      rcases ht with h | h <;> subst h
      · exact nS_mid ha
      · exact nS_mid hb)
    show (("(" : Str) ++ Str.join ", " [(PyData.int a).shown, (PyData.int b).shown] ++ (if [(PyData.int a).shown, (PyData.int b).shown].length == 1 then ",)" else ")" : String)).length ≤ sizeLine
    have c1 : (Str.ofString "(").length = 1 := by decide
    have c2 : (Str.ofString (if [(PyData.int a).shown, (PyData.int b).shown].length == 1 then ",)" else ")" : String)).length ≤ 2 := by split <;> decide
    rw [Str.length_append, Str.length_append]
    have z2 : (Str.join ", " [(PyData.int a).shown, (PyData.int b).shown]).length ≤ 2 * 21 := z
    have e9 := sizeLine_eq
    omega
theorem int_repr {H : Hp} {a : Int} {Q : VK} (ha : Mid a) (q : Q (.str (PyData.int a).shown) H) : rRepr K [.int a] H Q :=
  ⟨_, _, rfl, .int _, decide_eq_true (log_small ha), rfl, by show 0 ≤ 60; decide, szL (Nat.le_trans (nS_mid ha) (by decide)), q⟩
theorem box_some {H : Hp} {b : Addr} (B : Box H b) : H b ≠ none := by
  obtain ⟨x, y, z, h, _⟩ := B
  intro e
  rw [e] at h
  cases h

end
end K55
namespace K55
open PySem PySem.Spec PyProof.Rows L2 Rs
local macro_rules | `(tactic| walk_at "om") => `(tactic| first | omega | (dsimp only; omega))
local macro_rules | `(tactic| walk_at "side") => `(tactic| first | omega | (dsimp only; omega) | decide | (unfold CMul; omega) | (unfold CDiv; omega) | (unfold CPow; omega) | exact wide_div (b := 64) (by omega) (by omega) (by decide) (by decide))
local macro_rules | `(tactic| walk_at "hp") => `(tactic| first | assumption | exact upd_same)
local macro_rules | `(tactic| walk_at "sq") => `(tactic| first | assumption | exact SqL.of (by assumption) | exact SqL.of upd_same)
local macro_rules | `(tactic| walk_at "st") => `(tactic| first
  | refine ⟨_, rfl, ?_⟩
  | (refine ⟨_, _, rfl, rfl, And.intro ?side ?_⟩; (case side => walk_at "side"))
  | refine ⟨_, _, rfl, rfl, ?_⟩
  | (refine' ⟨_, _, _, _, rfl, rfl, SqL.of ?hp, ?atx, ?_⟩; (case hp => walk_at "hp"); (case atx => exact rfl))
  | (refine' ⟨_, _, _, _, rfl, rfl, ?hp, ?atx, ?_⟩; (case hp => walk_at "hp"); (case atx => exact rfl))
  | (refine' ⟨_, _, rfl, Or.inl ?sq, ?_⟩; (case sq => walk_at "sq"))
  | refine Or.inl ⟨_, rfl, ?_⟩
  | refine Or.inr ⟨_, rfl, ?_⟩)
local macro_rules | `(tactic| walk_at "evd") => `(tactic| first
  | exact evd_int
  | exact evd_str
  | exact evd_non
  | exact evd_bl
  | exact evd_nil
  | (refine evd_cons ?_ (fun _ => ?_) <;> walk_at "evd")
  | (refine evd_tup ?_ (Nat.le_of_ble_eq_true rfl); walk_at "evd"))

section
variable {P : Program} {w : World} {K : PySem.W.Frag} {mg : Str → Option Value} {base : Heap}
def spLaw (K : PySem.W.Frag) : Sp := fun vs H Q _ => ∃ (a : Addr) (ns : List Int), vs = [.ref a] ∧ SqL K H a (ns.map V.int) ∧ ns.length ≤ 63 ∧ ∀ H', Q (.bl true) H'
theorem ok_law (T : Txt K mg) : At callerA P w K mg base CX0 12 T.a_law ["_law_script"] T.d_law (spLaw K) := by
  have G__law_take : FnOk P w K mg base CX0 1 T.a__law_take T.d__law_take ["_law_box_here", "_law_many"] spTake := ok_take T
  have G__law_box : FnOk P w K mg base CX0 1 T.a__law_box T.d__law_box ["_law_script", "_law_k", "_law_own"] (spBox K) := ok_box T
  have G__law_plan_of : FnOk P w K mg base CX0 9 T.a__law_plan_of T.d__law_plan_of ["_law_drawn"] (spPlanOfD K T.c_Plan T.c_Block T.c_Lane T.c_Form) := ok_plan_ofD T
  have G__law_wide_form : FnOk P w K mg base CX0 2 T.a__law_wide_form T.d__law_wide_form ["_law_box_here"] spWideF := ok_wideF T
  have G__law_lane : FnOk P w K mg base CX0 4 T.a__law_lane T.d__law_lane ["_law_box_here"] spLaneD := ok_laneD T
  have G__law_pace : FnOk P w K mg base CX0 2 T.a__law_pace T.d__law_pace ["_law_drawn"] (spLPace K) := ok_lpace T
  have G__law_value : FnOk P w K mg base CX0 1 T.a__law_value T.d__law_value ["_law_form_here", "_law_n"] (spValue K) := ok_value T
  have G_pace : FnOk P w K mg base CX0 1 T.a_pace T.d_pace ["plan"] (spPace K T.c_Plan T.c_Block T.c_Lane T.c_Form) := ok_pace T
  have G_hops : FnOk P w K mg base CX0 2 T.a_hops T.d_hops ["plan", "n"] (spHops K T.c_Plan T.c_Block T.c_Lane T.c_Form) := ok_hops T
  have GI_Plan : FnOk P w K mg base CX0 2 T.a_Plan___init__ T.d_Plan___init__ ["self", "blocks"] (spPlanS K T.c_Plan T.c_Block) := ok_planS T
  obtain ⟨ds0, V0_Plan, B0_Plan⟩ := T.D_Plan___init__
  refine fun_at0 T.F_law sc_law (fun vs H Q E h => ?_) (fun cdv outer s H vs Q E hr h => ?_)
  · obtain ⟨a, ns, rfl, _⟩ := h
    rfl
  · obtain ⟨a, ns, rfl, hS, hlen, k⟩ := h
    have nd := sc_law.nd
    have hgd : (callerA.deeper (envOfC "law" (defScope s_law) s.heap.objs.size T.a_law cdv)).guards = some [] := guards_deeper rfl
    refine ⟨_, (pss_cons (ps_for PassesOwn.never rfl (pi_range1 (by rfl) T.z_range (pa_cons (pe_callB (call_max2 rfl) (by rfl) T.z_max (by decide +kernel) (pa_cons pe_int (pa_cons (pe_callB (call_min2 rfl) (by rfl) T.z_min (by decide +kernel) (pa_cons pe_int (pa_cons (pe_callB call_len_seq (by rfl) T.z_len (by decide +kernel) (pa_cons (pv 0) pa_nil)) pa_nil))) pa_nil))) pa_nil)) (pg_name (i := 1) nd rfl (Or.inl rfl))
    (pss_cons (ps_set (i := 2) nd rfl (Or.inr rfl) (pe_call G__law_box (hr.mono (by first | decide | omega)) (by rfl) T.m__law_box T.k__law_box T.b__law_box .nil pass0 (pa_cons (pv 0) (pa_cons (pv 1) (pa_cons pe_int pa_nil)))))
    (pss_one (ps_for PassesOwn.never rfl (pi_range1 (by rfl) T.z_range (pa_cons pe_int pa_nil)) (pg_name (i := 3) nd rfl (Or.inl rfl))
    (pss_cons (ps_set (i := 4) nd rfl (Or.inl rfl) (pe_lst pa_nil))
    (pss_cons (ps_for PassesOwn.never rfl (pi_range1 (by rfl) T.z_range (pa_cons (pe_call G__law_take (hr.mono (by first | decide | omega)) (by rfl) T.m__law_take T.k__law_take T.b__law_take .nil pass0 (pa_cons (pv 2) (pa_cons pe_int pa_nil))) pa_nil)) (pg_name (i := 5) nd rfl (Or.inl rfl))
    (pss_one (ps_expr (pe_bm PySem.F.plainAttrs_list PySem.F.slot_list_append PySem.F.type_list_append mt_append (pv 4) (pa_cons (pe_tup (pa_cons (pe_call G__law_wide_form (hr.mono (by first | decide | omega)) (by rfl) T.m__law_wide_form T.k__law_wide_form T.b__law_wide_form .nil pass0 (pa_cons (pv 2) pa_nil)) (pa_cons (pe_lc (own := [("_law_spot", 6)]) (g := (gName 6)) (by rfl) nd (pi_range1 (by rfl) T.z_range (pa_cons (pe_op op_add pe_int (pe_call G__law_take (hr.mono (by first | decide | omega)) (by rfl) T.m__law_take T.k__law_take T.b__law_take .nil pass0 (pa_cons (pv 2) (pa_cons pe_int pa_nil)))) pa_nil)) (blkOk_by (N := ["_law_script", "_law_k", "_law_box_here", "_law_turn", "_law_drawn", "_law_more", "_law_spot", "_law_made", "_law_n", "_law_due", "_law_form_here", "_law_lanes"]) (sc := defScope s_law) (own := [("_law_spot", 6)]) (by decide +kernel)) (fun _ _ _ _ _ => by exact (pg_name (i := 6) nd rfl (Or.inl rfl))) (fun _ _ _ _ _ => by exact pts_nil) (fun _ _ _ _ _ => by exact (pe_call G__law_lane (hr.mono (by first | decide | omega)) (by rfl) T.m__law_lane T.k__law_lane T.b__law_lane .nil pass0 (pa_cons (pv 2) pa_nil)))) pa_nil))) pa_nil)))))
    (pss_cons (ps_set (i := 7) nd rfl (Or.inl rfl) (pe_call G__law_plan_of (hr.mono (by first | decide | omega)) (by rfl) T.m__law_plan_of T.k__law_plan_of T.b__law_plan_of .nil pass0 (pa_cons (pv 4) pa_nil)))
    (pss_cons (ps_if (pt_cmpR op_ne (pe_callB (call_reprD hr hgd) (by rfl) T.z_repr (by decide +kernel) (pa_cons (pe_call G_pace (hr.mono (by first | decide | omega)) (by rfl) T.m_pace T.k_pace T.b_pace .nil pass0 (pa_cons (pv 7) pa_nil)) pa_nil)) (pe_callB (call_reprD hr hgd) (by rfl) T.z_repr (by decide +kernel) (pa_cons (pe_call G__law_pace (hr.mono (by first | decide | omega)) (by rfl) T.m__law_pace T.k__law_pace T.b__law_pace .nil pass0 (pa_cons (pv 4) pa_nil)) pa_nil)) (nomark _)) (pss_one (ps_ret pe_bl)) pss_nil)
    (pss_one (ps_for PassesOwn.never rfl (pi_tup (pe_tup (pa_cons pe_int (pa_cons pe_int (pa_cons (pe_op op_add pe_int (pe_call G__law_take (hr.mono (by first | decide | omega)) (by rfl) T.m__law_take T.k__law_take T.b__law_take .nil pass0 (pa_cons (pv 2) (pa_cons (pe_ifExp (pt_cmpR op_gt (pe_callB call_len_seq (by rfl) T.z_len (by decide +kernel) (pa_cons (pv 4) pa_nil)) pe_int (nomark _)) pe_int pe_int) pa_nil)))) pa_nil))))) (pg_name (i := 8) nd rfl (Or.inr rfl))
    (pss_cons (ps_set (i := 9) nd rfl (Or.inl rfl) (pe_callB (cr_sum rfl) (by rfl) T.z_sum (by decide +kernel) (pa_cons (pe_lc (own := [("_law_form_here", 10), ("_law_lanes", 11)]) (g := (gTup K 2 (gCons (gName 10) (gCons (gName 11) gNil)))) (by rfl) nd (pi_list (pv 4)) (blkOk_by (N := ["_law_script", "_law_k", "_law_box_here", "_law_turn", "_law_drawn", "_law_more", "_law_spot", "_law_made", "_law_n", "_law_due", "_law_form_here", "_law_lanes"]) (sc := defScope s_law) (own := [("_law_form_here", 10), ("_law_lanes", 11)]) (by decide +kernel)) (fun _ _ _ _ _ => by exact (pg_tup rfl (pgs_cons (pg_name (i := 10) nd rfl (Or.inl rfl)) (pgs_cons (pg_name (i := 11) nd rfl (Or.inl rfl)) pgs_nil)))) (fun _ _ _ _ _ => by exact pts_nil) (fun _ _ _ _ _ => by exact (pe_op op_mul (pe_callB (call_max2 rfl) (by rfl) T.z_max (by decide +kernel) (pa_cons pe_int (pa_cons (pe_callTy call_int1 (by rfl) T.z_int (by decide +kernel) (pa_cons (pe_call G__law_value (hr.mono (by first | decide | omega)) (by rfl) T.m__law_value T.k__law_value T.b__law_value .nil pass0 (pa_cons (pv 10) (pa_cons (pv 8) pa_nil))) pa_nil)) pa_nil))) (pe_callB (call_len_seqK (K := K) rfl) (by rfl) T.z_len (by decide +kernel) (pa_cons (pv 11) pa_nil))))) pa_nil)))
    (pss_one (ps_if (pt_cmpR op_ne (pe_callB (call_reprD hr hgd) (by rfl) T.z_repr (by decide +kernel) (pa_cons (pe_call G_hops (hr.mono (by first | decide | omega)) (by rfl) T.m_hops T.k_hops T.b_hops .nil pass0 (pa_cons (pv 7) (pa_cons (pv 8) pa_nil))) pa_nil)) (pe_callB (call_reprD hr hgd) (by rfl) T.z_repr (by decide +kernel) (pa_cons (pv 9) pa_nil)) (nomark _)) (pss_one (ps_ret pe_bl)) pss_nil)))))))))))))
    (pss_one (ps_ret (pe_and (pe_cmpR (op_eqD hr.units) (pe_call G_pace (hr.mono (by first | decide | omega)) (by rfl) T.m_pace T.k_pace T.b_pace .nil pass0 (pa_cons (pe_make0 T.M_Plan GI_Plan (hr.mono (by first | decide | omega)) (by rfl) T.m_Plan B0_Plan V0_Plan pass0) pa_nil)) (pe_tup (pa_cons pe_int (pa_cons pe_int pa_nil))) (nomark _)) (pe_one (pe_cmpR op_eq (pe_call G_hops (hr.mono (by first | decide | omega)) (by rfl) T.m_hops T.k_hops T.b_hops .nil pass0 (pa_cons (pe_make0 T.M_Plan GI_Plan (hr.mono (by first | decide | omega)) (by rfl) T.m_Plan B0_Plan V0_Plan pass0) (pa_cons pe_int pa_nil))) pe_int (nomark _))))))), ?_⟩
    refine ⟨_, rfl, _, _, rfl, .inl hS, _, _, rfl, _, _, rfl, _, rfl, ?_, ?_, ?_⟩
    · split <;> split <;> omega
    · split <;> split <;> omega
    refine for_range (fun i σ H2 => ∃ y1 y2 y3 y4 y5 y6 y7 y8 y9 y10 y11, σ = [some (.ref a), y1, y2, y3, y4, y5, y6, y7, y8, y9, y10, y11] ∧ Same H H2)
      ⟨none, none, none, none, none, none, none, none, none, none, none, rfl, Same.refl _⟩ (fun i σ H2 hi hP => ?_) (fun σ H2 hP => ?_)
    · obtain ⟨y1, y2, y3, y4, y5, y6, y7, y8, y9, y10, y11, rfl, s2⟩ := hP
      have i4 : i < 1000 := by
        revert hi
        split <;> split <;> omega
      refine asg_go ?_
      refine ⟨_, rfl, _, rfl, a, ns, _, 55, rfl, s2.seq hS, by omega, by omega, by omega, by omega, fun H3 b s3 nb B3 => ?_⟩
      dsimp only [gName]
      have s03 := s2.trans s3
      have nb0 : H b = none := s2.free nb
      refine ⟨4, rfl, by decide, by decide, for_range (fun j σ Hc => ∃ y3 y4 y5 y6 y7 y8 y9 y10 y11, σ = [some (.ref a), some (.int (0 + ((i : Nat) : Int))), some (.ref b), y3, y4, y5, y6, y7, y8, y9, y10, y11] ∧ Box Hc b ∧ But b H3 Hc)
        ⟨y3, y4, y5, y6, y7, y8, y9, y10, y11, rfl, B3, But.refl _ _⟩ (fun j σ H4 hj hP => ?_) (fun σ Hc hP => ?_)⟩
      · obtain ⟨y3, y4, y5, y6, y7, y8, y9, y10, y11, rfl, B4, k4⟩ := hP
        dsimp only [gName]
        refine asg_go ?_
        refine ⟨szL (Nat.le_of_ble_eq_true rfl), fun F nF => ?_⟩
        have s5 := same_new (o := .lst []) nF
        have hF5 : upd H4 F (.lst []) F = some (.lst []) := upd_same
        generalize upd H4 F (.lst []) = H5 at s5 hF5 ⊢
        have B5 := B4.same s5
        have nb4 : H4 b ≠ none := box_some B4
        have nF4 : ¬ (H4 F ≠ none) := fun z => z nF
        have neF : F ≠ b := B4.ne_none nF
        dsimp only [gName]
        refine ⟨_, rfl, b, 7, rfl, B5, by decide, by decide, fun m H6 m0 m1 B6 k6 => ?_⟩
        refine ⟨m, rfl, by omega, by omega, for_range (fun l σ Hc => ∃ y5 y6 ds, σ = [some (.ref a), some (.int (0 + ((i : Nat) : Int))), some (.ref b), some (.int (0 + ((j : Nat) : Int))), some (.ref F), y5, y6, y7, y8, y9, y10, y11] ∧ PlanN (fun a => H4 a ≠ none) Hc F ds ∧ ds.length = l ∧ (∀ d ∈ ds, SmallB d) ∧ Box Hc b ∧ But b H4 Hc)
          ⟨y5, y6, [], rfl, PlanN.nil (k6 _ _ neF hF5) nF4, rfl, fun d h => absurd h (by simp), B6, (But.of_same s5).trans k6⟩ (fun l σ Hc hl hP => ?_) (fun σ Hc hP => ?_)⟩
        · obtain ⟨y5, y6, ds, rfl, ⟨bs, hF, _, ab⟩, ld, sds, Bc, kc⟩ := hP
          dsimp only [gName]
          refine ⟨_, rfl, .inl ⟨rfl, _, SqL.of hF⟩, ?_⟩
          refine ⟨_, rfl, b, rfl, Bc, fun vf t q c H7 hf sm B7 k7 => ?_⟩
          refine ⟨_, rfl, b, 3, rfl, B7, by decide, by decide, fun x H8 x0 x1 B8 k8 => ?_⟩
          refine ⟨_, _, rfl, rfl, 1 + x, rfl, by omega, by omega, fun L nL => ?_⟩
          have neL := B8.ne_none nL
          refine lc_range (fun e He => ∃ vs ls, He L = some (.lst vs) ∧ AllR (LaneV He) vs ls ∧ ls.length = e ∧ Box He b ∧ But b H8 He) ⟨[], [], upd_same, .nil, rfl, B8.same (same_new nL), But.of_same (same_new nL)⟩ (fun e He hei hP => ?_) (fun He hP => ?_)
          · obtain ⟨vs, ls, hL, hvs, ll, Be, ke⟩ := hP
            refine ⟨rfl, _, rfl, b, rfl, Be, fun v lane H9 hlane slane B9 k9 => ?_⟩
            have lv := hvs.length
            have hL9 := k9 _ _ neL hL
            have zz : Fz H9 (upd H9 L (.lst (vs ++ [v]))) := Fz.lst hL9
            refine ⟨vs, hL9, szl (by omega), vs ++ [v], ls ++ [lane], upd_same, AllR.snoc (hvs.mono fun v l h => (h.fz (Be.fz k9)).fz zz) (hlane.fz zz), by rw [List.length_append, ll]; rfl, box_ne B9 neL, but_new (ke.trans k9) nL⟩
          · obtain ⟨vs, ls, hL, hvs, ll, Be, ke⟩ := hP
            refine ⟨szL (Nat.le_of_ble_eq_true rfl), fun p np => ?_⟩
            obtain ⟨pf, rfl, hpf, fb⟩ := hf
            have kce := (k7.trans k8).trans ke
            have hFe := kce _ _ neF hF
            have nL4 : ¬ (H4 L ≠ none) := fun z => z (((kc.trans k7).trans k8).free neL nL)
            have hpf2 : He pf = some (.tup [.int t, .int q, .int c]) := B7.fz (k8.trans ke) _ _ trivial hpf
            have hb := blockN_new (N := fun a => H4 a ≠ none) np hpf2 fb nL4 hL hvs (by omega) (by omega)
            have s9 := same_new (o := .tup [.ref pf, .ref L]) np
            have lb := ab.length
            refine ⟨F, _, _, rfl, rfl, s9 _ _ hFe, szl (by omega), ?_⟩
            have LF : L ≠ F := fun z => by
              rw [z] at nL
              rw [k8 _ _ neF (k7 _ _ neF hF)] at nL
              cases nL
            have pl := PlanN.snoc (s9 _ _ hFe) nF4 (ab.mono fun v d h => ⟨(h.1.but nb4 Bc kce).same s9, (h.2.fz (Bc.fz kce)).fz (Fz.of_same s9)⟩) hb ⟨p, .ref pf, L, rfl, upd_same, LF⟩
            refine ⟨_, _, _, rfl, pl, by rw [List.length_append, ld]; rfl, fun d hd => ?_, box_ne (Be.same s9) neF, ?_⟩
            · rcases List.mem_append.mp hd with h | h
              · exact sds d h
              · rw [List.mem_singleton] at h
                subst h
                exact ⟨sm, by show ls.length ≤ 3; omega⟩
            · exact but_new (kc.trans (kce.trans (But.of_same s9))) nF
        · obtain ⟨y5, y6, ds, rfl, ⟨bs, hF, _, ab⟩, ld, sds, Bc, kc⟩ := hP
          have ld6 : ds.length ≤ 6 := by omega
          have abv := ab.mono fun v d h => h.1.v nb4
          have bis : ∀ d ∈ ds, BI d := di_all abv
          have lb := ab.length
          obtain ⟨ps1, ps2, ps3, ps4⟩ := pace_small ld6 sds
          have gp : 0 < Nat.gcd (paceS ds).1.natAbs (paceS ds).2.natAbs := Nat.gcd_pos_of_pos_right _ (by omega)
          have dv : ∀ x : Int, 0 ≤ x → x ≤ 10000000 → Mid (x / (Int.gcd (paceS ds).1 (paceS ds).2 : Int)) := fun x x0 x1 => by
            have a := Int.ediv_nonneg x0 (show (0 : Int) ≤ (Int.gcd (paceS ds).1 (paceS ds).2 : Int) by omega)
            have b := Int.ediv_le_self (a := x) (Int.gcd (paceS ds).1 (paceS ds).2 : Int) x0
            unfold Mid
            omega
          have dv1 := dv _ ps1 ps2
          have dv2 := dv _ (by omega) ps4
          dsimp only
          refine asg_go ?_
          refine ⟨_, rfl, F, b, bs, ds, rfl, hF, abv, by omega, fun u H9 s9 hu => ?_⟩
          dsimp only [gName]
          have hF9 := s9 _ _ hF
          have abv9 := abv.mono fun v d h => h.same s9
          refine seqif_go (tst_go (cb_go ?_))
          refine ⟨_, rfl, u, ds, rfl, hu, bis, ps3, by omega, fun p1 H10 s10 hp1 => ?_⟩
          refine pair_repr hp1 dv1 dv2 ?_
          refine cb_go ?_
          refine ⟨_, rfl, F, b, bs, ds, rfl, s10 _ _ hF9, abv9.mono fun v d h => h.same s10, ps3, by omega, fun p2 H11 s11 hp2 => ?_⟩
          refine pair_repr hp2 dv1 dv2 ?_
          refine ⟨rfl, _, rfl, ifF (by simp) ?_⟩
          dsimp only [tNext]
          have s911 := s10.trans s11
          have hF11 := s911 _ _ hF9
          have B11 := (Bc.same s9).same s911
          refine ⟨_, rfl, ?_⟩
          refine val_go (v := .int (if 1 < (bs.length : Int) then 14 else 40)) (fun R hR => ?_) ?_
          · refine ⟨_, rfl, F, bs, rfl, .inl (SqL.of hF11), _, _, rfl, rfl, _, rfl, ?_⟩
            by_cases z : 1 < (bs.length : Int)
            · rw [if_pos z] at hR
              exact ifT (decide_eq_true z) hR
            · rw [if_neg z] at hR
              exact ifF (decide_eq_false z) hR
          refine ⟨b, _, rfl, B11, by split <;> decide, by split <;> decide, fun x H12 x0 x1 B12 k12 => ?_⟩
          have x40 : x < 40 := by
            revert x1
            split <;> omega
          refine ⟨_, _, rfl, rfl, szL (Nat.le_of_ble_eq_true rfl), fun p3 np3 => ?_⟩
          have s13 := same_new (o := .tup [.int 1, .int 2, .int (1 + x)]) np3
          have hp3 : upd H12 p3 (.tup [.int 1, .int 2, .int (1 + x)]) p3 = some (.tup [.int 1, .int 2, .int (1 + x)]) := upd_same
          generalize upd H12 p3 (.tup [.int 1, .int 2, .int (1 + x)]) = H13 at s13 hp3 ⊢
          have hF13 := s13 _ _ (k12 _ _ neF hF11)
          have hu13 := ((hu.same s911).fz (B11.fz k12)).same s13
          have abv13 : AllR (BlockV b H13) bs ds := abv9.mono fun v d h => ((h.same s911).but B11 k12).same s13
          have B13 := B12.same s13
          have k13 : But b H3 H13 := k4.trans (kc.trans (((But.of_same (s9.trans s911)).trans k12).trans (But.of_same s13)))
          refine ⟨p3, rfl, ⟨_, SqT.of hp3⟩, for_it (walk_tup (xs := [.int 1, .int 2, .int (1 + x)])) (fun e σ Hc => ∃ y8 y9 y10 y11, σ = [some (.ref a), some (.int (0 + ((i : Nat) : Int))), some (.ref b), some (.int (0 + ((j : Nat) : Int))), some (.ref F), y5, y6, some u, y8, y9, y10, y11] ∧ Same H13 Hc)
            ⟨y8, y9, y10, y11, rfl, Same.refl _⟩ (fun e σ Hc _ hP => by obtain ⟨_, _, _, _, _, sc⟩ := hP; exact SqT.of (sc _ _ hp3)) (fun e v σ Hc H' hi hP hy => ?_) (fun σ Hc hP => ?_)⟩
          · obtain ⟨y8, y9, y10, y11, rfl, sc⟩ := hP
            obtain ⟨rfl, hv⟩ := hy
            obtain ⟨n, rfl, n0, n40⟩ : ∃ n : Int, v = .int n ∧ 0 ≤ n ∧ n ≤ 40 := by
              have hm := List.mem_of_getElem? hv
              simp only [List.mem_cons, List.not_mem_nil, or_false] at hm
              rcases hm with h | h | h
              · exact ⟨1, h, by decide, by decide⟩
              · exact ⟨2, h, by decide, by decide⟩
              · exact ⟨1 + x, h, by omega, by omega⟩
            dsimp only [gName]
            refine asg_go ?_
            have hF' := sc _ _ hF13
            refine ⟨_, rfl, F, rfl, ⟨bs, SqL.of hF'⟩, fun D nD => ?_⟩
            refine lc_list (xs := bs) (fun e Hd => Hd D = some (.lst (((ds.take e).map fun d => (if valP d n > 0 then valP d n else 0) * (d.ls.length : Int)).map V.int)) ∧ Same H' Hd) ⟨upd_same, same_new nD⟩ (fun e Hd _ hP => SqL.of (hP.2 _ _ hF')) (fun e v Hd hv hP => ?_) (fun Hd hP => ?_)
            · obtain ⟨hD, sd⟩ := hP
              obtain ⟨d, ed, hd⟩ := abv13.get hv
              obtain ⟨q, f, L, vs, rfl, hq, hf, _, hL, hvs, di⟩ := (hd.same sc).same sd
              have r := di.r
              have t1 := r.t1
              have t2 := r.t2
              have c1 := r.c1
              have c2 := r.c2
              have lv := hvs.length
              have l1 := di.l1
              have le := (List.getElem?_eq_some_iff.mp ed).1
              refine ⟨q, _, rfl, SqT.of hq, rfl, ⟨_, _, rfl, _, _, rfl, rfl, rfl, ?_⟩⟩
              refine ⟨_, rfl, _, rfl, f, d.t, d.q, d.c, n, rfl, SqT.of hf, .inl ⟨by omega, by omega⟩, c1, by omega, .inl ⟨_, rfl, _, _, rfl, ?_⟩⟩
              refine ⟨_, rfl, L, vs, rfl, .inl (SqL.of hL), _, _, rfl, rfl, .inr ⟨by omega, by omega⟩, ?_⟩
              refine ⟨_, hD, szL2 (by rw [List.length_map, List.length_map, List.length_take]; omega), ?_, same_lst sd nD⟩
              rw [upd_same, take_snoc ed, List.map_append, List.map_append, lv]
              rfl
            · obtain ⟨hD, sd⟩ := hP
              rw [lb, List.take_length] at hD
              refine ⟨D, _, rfl, .inl (.inl hD), ?_⟩
              have eq : ((ds.map fun d => (if valP d n > 0 then valP d n else 0) * (d.ls.length : Int))).sum = hopsS ds n := by
                unfold hopsS
                exact congrArg List.sum (List.map_congr_left fun d _ => Int.mul_comm _ _)
              rw [eq]
              dsimp only [gName]
              have sd2 := sc.trans sd
              have hb := hops_le n0 (by omega) sds
              have mh : Mid (hopsS ds n) := by
                have : (ds.length : Int) * 1000 ≤ 6 * 1000 := Int.mul_le_mul_of_nonneg_right (by omega) (by decide)
                unfold Mid
                omega
              refine ifs_go (tst_go (cb_go ?_))
              refine ⟨_, rfl, _, rfl, u, ds, n, rfl, hu13.same sd2, bis, by omega, n0, by omega, fun H14 s14 => ?_⟩
              refine int_repr mh ?_
              refine cb_go ?_
              refine ⟨_, rfl, ?_⟩
              refine int_repr mh ?_
              refine ⟨rfl, _, rfl, ifF (by simp) ?_⟩
              exact ⟨_, _, _, _, rfl, sd2.trans s14⟩
          · obtain ⟨y8, y9, y10, y11, rfl, sc⟩ := hP
            exact ⟨_, _, _, _, _, _, _, _, _, rfl, B13.same sc, k13.trans (But.of_same sc)⟩
      · obtain ⟨y3, y4, y5, y6, y7, y8, y9, y10, y11, rfl, B4, k4⟩ := hP
        exact ⟨_, _, _, _, _, _, _, _, _, _, _, rfl, same_but s03 k4 nb0⟩
    · obtain ⟨y1, y2, y3, y4, y5, y6, y7, y8, y9, y10, y11, rfl, s2⟩ := hP
      dsimp only
      refine ret_go ?_
      have e0 : (paceS []).1 / (Int.gcd (paceS []).1 (paceS []).2 : Int) = 0 := by decide
      have e1 : (paceS []).2 / (Int.gcd (paceS []).1 (paceS []).2 : Int) = 1 := by decide
      have ev : PyData.eqv (pairD 0 1) (pairD 0 1) = true := by decide +kernel
      intro x2 d2 nx2 nd2 ne2
      refine make_planE (CL := T.c_Lane) (CF := T.c_Form) (a := T.e_Plan___init___0) (bs := []) (ds := []) (.inr ⟨rfl, T.E_Plan___init___0 _⟩) .nil nx2 nd2 (by decide) fun H4 s4 h4 => ⟨rfl, ?_⟩
      refine ⟨.ref x2, [], rfl, h4, fun d h => absurd h (by simp), by decide, by decide, fun p H5 s5 hp => ?_⟩
      rw [e0, e1] at hp
      refine ⟨szL (Nat.le_of_ble_eq_true rfl), fun p2 np2 => ?_⟩
      have s6 := same_new (o := .tup [.int 0, .int 1]) np2
      refine ⟨pairD 0 1, pairD 0 1, .tup (SqT.of (s6 _ _ hp)) (.cons (.int 0) (.cons (.int 1) .nil)), .tup (SqT.of upd_same) (.cons (.int 0) (.cons (.int 1) .nil)), by decide +kernel, by decide +kernel, ?_⟩
      rw [ev]
      refine ⟨_, rfl, ifT rfl ?_⟩
      intro x3 d3 nx3 nd3 ne3
      refine make_planE (CL := T.c_Lane) (CF := T.c_Form) (a := T.e_Plan___init___0) (bs := []) (ds := []) (.inr ⟨rfl, T.E_Plan___init___0 _⟩) .nil nx3 nd3 (by decide) fun H7 s7 h7 => ⟨rfl, ?_⟩
      refine ⟨.ref x3, [], 7, rfl, h7, fun d h => absurd h (by simp), by decide, by decide, by decide, fun H8 s8 => ?_⟩
      exact ⟨rfl, k _⟩

end
theorem all_mk {l : PySem.W.OpenLaw} {w : World} {K : PySem.W.Frag} {h : Heap} {mg : Str → Option Value} {fa : Addr} (X : K.In h) (G : h.Ns mainGlobals mg) (hfa : mg "law" = some (.ref fa))
    {C_Form : Addr} (aC_Form : PySem.W.nsIn K mainGlobals "Form" = some (some (.ref C_Form)))
    (pg_Form : PySem.W.plainGet K C_Form Str.empty = true)
    (hd_Form : PySem.W.hasDictIn K C_Form = true)
    (po_Form : PySem.W.plainOver K C_Form = true)
    (sa_Form : PySem.W.findIn K (.ref C_Form) "__setattr__" = some (some (.builtin "object.__setattr__")))
    (mk_Form : PySem.W.makesIn K C_Form = true)
    (kc_Form : PySem.W.keepIn K (.ref C_Form) = true)
    (n_times_Form : PySem.W.findIn K (.ref C_Form) "times" = some none)
    (n_plus_Form : PySem.W.findIn K (.ref C_Form) "plus" = some none)
    (n_by_Form : PySem.W.findIn K (.ref C_Form) "by" = some none)
    (fo_Form : PySem.W.findIn K (.ref C_Form) "__format__" = some (some (.builtin "object.__format__")))
    (cl_Form : (PySem.W.clsIn K C_Form).isSome = true)
    (tC_Form : PySem.W.typeIn K (.ref C_Form) = some (.type "type"))
    (ca_Form : PySem.W.findIn K (.ref C_Form) "__class__" = some (some (.builtin "object.__class__")))
    (mo_Form : PySem.W.mroIn K C_Form (.type "object") = some true)
    (nE_Form : PySem.W.findIn K (.ref C_Form) "__ne__" = some (some (.builtin "object.__ne__")))
    (mo_N_Form : PySem.W.mroIn K C_Form (.type "NoneType") = some false)
    (mo_S_Form : PySem.W.mroIn K C_Form (.type "str") = some false)
    (mo_T_Form : PySem.W.mroIn K C_Form (.type "tuple") = some false)
    (mo_L_Form : PySem.W.mroIn K C_Form (.type "list") = some false)
    (mo_I_Form : PySem.W.mroIn K C_Form (.type "int") = some false)
    {f0 : Addr} {od0 an0 : Option Addr} {sl0 : Array (Option Value)} {oc0 kV0 dc0 pm0 cd0 ct0 : Value}
    {T0 : Addr} {dd0 : Option Addr} {dn0 : Nat} {dsl0 : Array (Option Value)} {t0_0 : Tok} {t0_1 : Tok} {t0_2 : Tok}
    (t0 : K.lookup T0 = some ⟨.type "tuple", dd0, .seq [Value.int 0 t0_0, Value.int 0 t0_1, Value.int 1 t0_2].toArray dn0, dsl0⟩)
    (l0 : K.lookup f0 = some ⟨oc0, od0, .func (PySem.W.fnOf "__init__" "Form.__init__" (defArgs s_Form___init__) (defBody s_Form___init__) (defScope s_Form___init__) (.ref T0) kV0 dc0 pm0 an0 cd0 ct0), sl0⟩) (c0 : PySem.W.codeIn K cd0 "Form.__init__" = true) (k0 : PySem.W.keepIn K (.ref f0) = true)
    (a0 : PySem.W.findIn K (.ref C_Form) "__init__" = some (some (.ref f0))) (i0 : PySem.W.isFn K (.ref f0) = true)
    {f1 : Addr} {od1 an1 : Option Addr} {sl1 : Array (Option Value)} {oc1 kV1 dc1 pm1 cd1 ct1 : Value}
    (l1 : K.lookup f1 = some ⟨oc1, od1, .func (PySem.W.fnOf "__call__" "Form.__call__" (defArgs s_Form___call__) (defBody s_Form___call__) (defScope s_Form___call__) .none kV1 dc1 pm1 an1 cd1 ct1), sl1⟩) (c1 : PySem.W.codeIn K cd1 "Form.__call__" = true) (k1 : PySem.W.keepIn K (.ref f1) = true)
    (a1 : PySem.W.findIn K (.ref C_Form) "__call__" = some (some (.ref f1))) (i1 : PySem.W.isFn K (.ref f1) = true)
    (fi1 : PySem.W.fnIn K f1 = true)
    {f2 : Addr} {od2 an2 : Option Addr} {sl2 : Array (Option Value)} {oc2 kV2 dc2 pm2 cd2 ct2 : Value}
    (l2 : K.lookup f2 = some ⟨oc2, od2, .func (PySem.W.fnOf "__eq__" "Form.__eq__" (defArgs s_Form___eq__) (defBody s_Form___eq__) (defScope s_Form___eq__) .none kV2 dc2 pm2 an2 cd2 ct2), sl2⟩) (c2 : PySem.W.codeIn K cd2 "Form.__eq__" = true) (k2 : PySem.W.keepIn K (.ref f2) = true)
    (a2 : PySem.W.findIn K (.ref C_Form) "__eq__" = some (some (.ref f2))) (i2 : PySem.W.isFn K (.ref f2) = true)
    {f3 : Addr} {od3 an3 : Option Addr} {sl3 : Array (Option Value)} {oc3 kV3 dc3 pm3 cd3 ct3 : Value}
    (l3 : K.lookup f3 = some ⟨oc3, od3, .func (PySem.W.fnOf "__str__" "Form.__str__" (defArgs s_Form___str__) (defBody s_Form___str__) (defScope s_Form___str__) .none kV3 dc3 pm3 an3 cd3 ct3), sl3⟩) (c3 : PySem.W.codeIn K cd3 "Form.__str__" = true) (k3 : PySem.W.keepIn K (.ref f3) = true)
    (a3 : PySem.W.findIn K (.ref C_Form) "__str__" = some (some (.ref f3))) (i3 : PySem.W.isFn K (.ref f3) = true)
    {f4 : Addr} {od4 an4 : Option Addr} {sl4 : Array (Option Value)} {oc4 kV4 dc4 pm4 cd4 ct4 : Value}
    (l4 : K.lookup f4 = some ⟨oc4, od4, .func (PySem.W.fnOf "read" "Form.read" (defArgs s_Form_read) (defBody s_Form_read) (defScope s_Form_read) .none kV4 dc4 pm4 an4 cd4 ct4), sl4⟩) (c4 : PySem.W.codeIn K cd4 "Form.read" = true) (k4 : PySem.W.keepIn K (.ref f4) = true)
    (cr_Form : PySem.W.readsIn K C_Form (.type "type") = true) (cg_Form : PySem.W.specialIn K (.ref C_Form) "__getattribute__" = some (some (.builtin "type.__getattribute__")))
    {pA4 : Addr} {pR4 : List Value} (pm4 : PySem.W.findCls K (.ref C_Form) (.type "type") "read" = some (.get (.builtin "classmethod.__get__") (.ref pA4) .none (.ref C_Form))) (pr4 : PySem.W.recIn K pA4 "classmethod" = some (.ref f4 :: pR4)) (pf4 : PySem.W.fnIn K f4 = true)
    {C_Lane : Addr} (aC_Lane : PySem.W.nsIn K mainGlobals "Lane" = some (some (.ref C_Lane)))
    (pg_Lane : PySem.W.plainGet K C_Lane Str.empty = true)
    (hd_Lane : PySem.W.hasDictIn K C_Lane = true)
    (po_Lane : PySem.W.plainOver K C_Lane = true)
    (sa_Lane : PySem.W.findIn K (.ref C_Lane) "__setattr__" = some (some (.builtin "object.__setattr__")))
    (mk_Lane : PySem.W.makesIn K C_Lane = true)
    (kc_Lane : PySem.W.keepIn K (.ref C_Lane) = true)
    (n_way_Lane : PySem.W.findIn K (.ref C_Lane) "way" = some none)
    (n_sign_Lane : PySem.W.findIn K (.ref C_Lane) "sign" = some none)
    (n_shift_Lane : PySem.W.findIn K (.ref C_Lane) "shift" = some none)
    (n_deed_Lane : PySem.W.findIn K (.ref C_Lane) "deed" = some none)
    (cl_Lane : (PySem.W.clsIn K C_Lane).isSome = true)
    (tC_Lane : PySem.W.typeIn K (.ref C_Lane) = some (.type "type"))
    (ca_Lane : PySem.W.findIn K (.ref C_Lane) "__class__" = some (some (.builtin "object.__class__")))
    (mo_Lane : PySem.W.mroIn K C_Lane (.type "object") = some true)
    (nE_Lane : PySem.W.findIn K (.ref C_Lane) "__ne__" = some (some (.builtin "object.__ne__")))
    (mo_N_Lane : PySem.W.mroIn K C_Lane (.type "NoneType") = some false)
    (mo_S_Lane : PySem.W.mroIn K C_Lane (.type "str") = some false)
    (mo_T_Lane : PySem.W.mroIn K C_Lane (.type "tuple") = some false)
    (mo_L_Lane : PySem.W.mroIn K C_Lane (.type "list") = some false)
    (mo_I_Lane : PySem.W.mroIn K C_Lane (.type "int") = some false)
    {f5 : Addr} {od5 an5 : Option Addr} {sl5 : Array (Option Value)} {oc5 kV5 dc5 pm5 cd5 ct5 : Value}
    (l5 : K.lookup f5 = some ⟨oc5, od5, .func (PySem.W.fnOf "__init__" "Lane.__init__" (defArgs s_Lane___init__) (defBody s_Lane___init__) (defScope s_Lane___init__) .none kV5 dc5 pm5 an5 cd5 ct5), sl5⟩) (c5 : PySem.W.codeIn K cd5 "Lane.__init__" = true) (k5 : PySem.W.keepIn K (.ref f5) = true)
    (a5 : PySem.W.findIn K (.ref C_Lane) "__init__" = some (some (.ref f5))) (i5 : PySem.W.isFn K (.ref f5) = true)
    {f6 : Addr} {od6 an6 : Option Addr} {sl6 : Array (Option Value)} {oc6 kV6 dc6 pm6 cd6 ct6 : Value}
    (l6 : K.lookup f6 = some ⟨oc6, od6, .func (PySem.W.fnOf "__eq__" "Lane.__eq__" (defArgs s_Lane___eq__) (defBody s_Lane___eq__) (defScope s_Lane___eq__) .none kV6 dc6 pm6 an6 cd6 ct6), sl6⟩) (c6 : PySem.W.codeIn K cd6 "Lane.__eq__" = true) (k6 : PySem.W.keepIn K (.ref f6) = true)
    (a6 : PySem.W.findIn K (.ref C_Lane) "__eq__" = some (some (.ref f6))) (i6 : PySem.W.isFn K (.ref f6) = true)
    {f7 : Addr} {od7 an7 : Option Addr} {sl7 : Array (Option Value)} {oc7 kV7 dc7 pm7 cd7 ct7 : Value}
    (l7 : K.lookup f7 = some ⟨oc7, od7, .func (PySem.W.fnOf "__str__" "Lane.__str__" (defArgs s_Lane___str__) (defBody s_Lane___str__) (defScope s_Lane___str__) .none kV7 dc7 pm7 an7 cd7 ct7), sl7⟩) (c7 : PySem.W.codeIn K cd7 "Lane.__str__" = true) (k7 : PySem.W.keepIn K (.ref f7) = true)
    (a7 : PySem.W.findIn K (.ref C_Lane) "__str__" = some (some (.ref f7))) (i7 : PySem.W.isFn K (.ref f7) = true)
    {C_Block : Addr} (aC_Block : PySem.W.nsIn K mainGlobals "Block" = some (some (.ref C_Block)))
    (pg_Block : PySem.W.plainGet K C_Block Str.empty = true)
    (hd_Block : PySem.W.hasDictIn K C_Block = true)
    (po_Block : PySem.W.plainOver K C_Block = true)
    (sa_Block : PySem.W.findIn K (.ref C_Block) "__setattr__" = some (some (.builtin "object.__setattr__")))
    (mk_Block : PySem.W.makesIn K C_Block = true)
    (kc_Block : PySem.W.keepIn K (.ref C_Block) = true)
    (n_rounds_Block : PySem.W.findIn K (.ref C_Block) "rounds" = some none)
    (n_lanes_Block : PySem.W.findIn K (.ref C_Block) "lanes" = some none)
    (cl_Block : (PySem.W.clsIn K C_Block).isSome = true)
    (tC_Block : PySem.W.typeIn K (.ref C_Block) = some (.type "type"))
    (ca_Block : PySem.W.findIn K (.ref C_Block) "__class__" = some (some (.builtin "object.__class__")))
    (mo_Block : PySem.W.mroIn K C_Block (.type "object") = some true)
    (nE_Block : PySem.W.findIn K (.ref C_Block) "__ne__" = some (some (.builtin "object.__ne__")))
    (mo_N_Block : PySem.W.mroIn K C_Block (.type "NoneType") = some false)
    (mo_S_Block : PySem.W.mroIn K C_Block (.type "str") = some false)
    (mo_T_Block : PySem.W.mroIn K C_Block (.type "tuple") = some false)
    (mo_L_Block : PySem.W.mroIn K C_Block (.type "list") = some false)
    (mo_I_Block : PySem.W.mroIn K C_Block (.type "int") = some false)
    {f8 : Addr} {od8 an8 : Option Addr} {sl8 : Array (Option Value)} {oc8 kV8 dc8 pm8 cd8 ct8 : Value}
    (l8 : K.lookup f8 = some ⟨oc8, od8, .func (PySem.W.fnOf "__init__" "Block.__init__" (defArgs s_Block___init__) (defBody s_Block___init__) (defScope s_Block___init__) .none kV8 dc8 pm8 an8 cd8 ct8), sl8⟩) (c8 : PySem.W.codeIn K cd8 "Block.__init__" = true) (k8 : PySem.W.keepIn K (.ref f8) = true)
    (a8 : PySem.W.findIn K (.ref C_Block) "__init__" = some (some (.ref f8))) (i8 : PySem.W.isFn K (.ref f8) = true)
    {f9 : Addr} {od9 an9 : Option Addr} {sl9 : Array (Option Value)} {oc9 kV9 dc9 pm9 cd9 ct9 : Value}
    (l9 : K.lookup f9 = some ⟨oc9, od9, .func (PySem.W.fnOf "__eq__" "Block.__eq__" (defArgs s_Block___eq__) (defBody s_Block___eq__) (defScope s_Block___eq__) .none kV9 dc9 pm9 an9 cd9 ct9), sl9⟩) (c9 : PySem.W.codeIn K cd9 "Block.__eq__" = true) (k9 : PySem.W.keepIn K (.ref f9) = true)
    (a9 : PySem.W.findIn K (.ref C_Block) "__eq__" = some (some (.ref f9))) (i9 : PySem.W.isFn K (.ref f9) = true)
    {f10 : Addr} {od10 an10 : Option Addr} {sl10 : Array (Option Value)} {oc10 kV10 dc10 pm10 cd10 ct10 : Value}
    (l10 : K.lookup f10 = some ⟨oc10, od10, .func (PySem.W.fnOf "__str__" "Block.__str__" (defArgs s_Block___str__) (defBody s_Block___str__) (defScope s_Block___str__) .none kV10 dc10 pm10 an10 cd10 ct10), sl10⟩) (c10 : PySem.W.codeIn K cd10 "Block.__str__" = true) (k10 : PySem.W.keepIn K (.ref f10) = true)
    (a10 : PySem.W.findIn K (.ref C_Block) "__str__" = some (some (.ref f10))) (i10 : PySem.W.isFn K (.ref f10) = true)
    {C_Plan : Addr} (aC_Plan : PySem.W.nsIn K mainGlobals "Plan" = some (some (.ref C_Plan)))
    (pg_Plan : PySem.W.plainGet K C_Plan Str.empty = true)
    (hd_Plan : PySem.W.hasDictIn K C_Plan = true)
    (po_Plan : PySem.W.plainOver K C_Plan = true)
    (sa_Plan : PySem.W.findIn K (.ref C_Plan) "__setattr__" = some (some (.builtin "object.__setattr__")))
    (mk_Plan : PySem.W.makesIn K C_Plan = true)
    (kc_Plan : PySem.W.keepIn K (.ref C_Plan) = true)
    (n_blocks_Plan : PySem.W.findIn K (.ref C_Plan) "blocks" = some none)
    (n_found_Plan : PySem.W.findIn K (.ref C_Plan) "found" = some none)
    (cl_Plan : (PySem.W.clsIn K C_Plan).isSome = true)
    (tC_Plan : PySem.W.typeIn K (.ref C_Plan) = some (.type "type"))
    (ca_Plan : PySem.W.findIn K (.ref C_Plan) "__class__" = some (some (.builtin "object.__class__")))
    (mo_Plan : PySem.W.mroIn K C_Plan (.type "object") = some true)
    (nE_Plan : PySem.W.findIn K (.ref C_Plan) "__ne__" = some (some (.builtin "object.__ne__")))
    (mo_N_Plan : PySem.W.mroIn K C_Plan (.type "NoneType") = some false)
    (mo_S_Plan : PySem.W.mroIn K C_Plan (.type "str") = some false)
    (mo_T_Plan : PySem.W.mroIn K C_Plan (.type "tuple") = some false)
    (mo_L_Plan : PySem.W.mroIn K C_Plan (.type "list") = some false)
    (mo_I_Plan : PySem.W.mroIn K C_Plan (.type "int") = some false)
    {f11 : Addr} {od11 an11 : Option Addr} {sl11 : Array (Option Value)} {oc11 kV11 dc11 pm11 cd11 ct11 : Value}
    {T11 : Addr} {dd11 : Option Addr} {dn11 : Nat} {dsl11 : Array (Option Value)} {eD_Plan___init___0 : Addr}
    (t11 : K.lookup T11 = some ⟨.type "tuple", dd11, .seq [Value.ref eD_Plan___init___0].toArray dn11, dsl11⟩)
    (l11 : K.lookup f11 = some ⟨oc11, od11, .func (PySem.W.fnOf "__init__" "Plan.__init__" (defArgs s_Plan___init__) (defBody s_Plan___init__) (defScope s_Plan___init__) (.ref T11) kV11 dc11 pm11 an11 cd11 ct11), sl11⟩) (c11 : PySem.W.codeIn K cd11 "Plan.__init__" = true) (k11 : PySem.W.keepIn K (.ref f11) = true)
    {eC_Plan___init___0 : Option Addr} {eN_Plan___init___0 : Nat} {eS_Plan___init___0 : Array (Option Value)} (lD_Plan___init___0 : K.lookup eD_Plan___init___0 = some ⟨.type "tuple", eC_Plan___init___0, .seq ([] : List Value).toArray eN_Plan___init___0, eS_Plan___init___0⟩)
    (a11 : PySem.W.findIn K (.ref C_Plan) "__init__" = some (some (.ref f11))) (i11 : PySem.W.isFn K (.ref f11) = true)
    {f12 : Addr} {od12 an12 : Option Addr} {sl12 : Array (Option Value)} {oc12 kV12 dc12 pm12 cd12 ct12 : Value}
    (l12 : K.lookup f12 = some ⟨oc12, od12, .func (PySem.W.fnOf "all_rounds" "Plan.all_rounds" (defArgs s_Plan_all_rounds) (defBody s_Plan_all_rounds) (defScope s_Plan_all_rounds) .none kV12 dc12 pm12 an12 cd12 ct12), sl12⟩) (c12 : PySem.W.codeIn K cd12 "Plan.all_rounds" = true) (k12 : PySem.W.keepIn K (.ref f12) = true)
    (a12 : PySem.W.findIn K (.ref C_Plan) "all_rounds" = some (some (.ref f12))) (i12 : PySem.W.isFn K (.ref f12) = true)
    {f13 : Addr} {od13 an13 : Option Addr} {sl13 : Array (Option Value)} {oc13 kV13 dc13 pm13 cd13 ct13 : Value}
    (l13 : K.lookup f13 = some ⟨oc13, od13, .func (PySem.W.fnOf "__eq__" "Plan.__eq__" (defArgs s_Plan___eq__) (defBody s_Plan___eq__) (defScope s_Plan___eq__) .none kV13 dc13 pm13 an13 cd13 ct13), sl13⟩) (c13 : PySem.W.codeIn K cd13 "Plan.__eq__" = true) (k13 : PySem.W.keepIn K (.ref f13) = true)
    (a13 : PySem.W.findIn K (.ref C_Plan) "__eq__" = some (some (.ref f13))) (i13 : PySem.W.isFn K (.ref f13) = true)
    {f14 : Addr} {od14 an14 : Option Addr} {sl14 : Array (Option Value)} {oc14 kV14 dc14 pm14 cd14 ct14 : Value}
    (l14 : K.lookup f14 = some ⟨oc14, od14, .func (PySem.W.fnOf "__str__" "Plan.__str__" (defArgs s_Plan___str__) (defBody s_Plan___str__) (defScope s_Plan___str__) .none kV14 dc14 pm14 an14 cd14 ct14), sl14⟩) (c14 : PySem.W.codeIn K cd14 "Plan.__str__" = true) (k14 : PySem.W.keepIn K (.ref f14) = true)
    (a14 : PySem.W.findIn K (.ref C_Plan) "__str__" = some (some (.ref f14))) (i14 : PySem.W.isFn K (.ref f14) = true)
    {f15 : Addr} {od15 an15 : Option Addr} {sl15 : Array (Option Value)} {oc15 kV15 dc15 pm15 cd15 ct15 : Value}
    (l15 : K.lookup f15 = some ⟨oc15, od15, .func (PySem.W.fnOf "read" "Plan.read" (defArgs s_Plan_read) (defBody s_Plan_read) (defScope s_Plan_read) .none kV15 dc15 pm15 an15 cd15 ct15), sl15⟩) (c15 : PySem.W.codeIn K cd15 "Plan.read" = true) (k15 : PySem.W.keepIn K (.ref f15) = true)
    (cr_Plan : PySem.W.readsIn K C_Plan (.type "type") = true) (cg_Plan : PySem.W.specialIn K (.ref C_Plan) "__getattribute__" = some (some (.builtin "type.__getattribute__")))
    {pA15 : Addr} {pR15 : List Value} (pm15 : PySem.W.findCls K (.ref C_Plan) (.type "type") "read" = some (.get (.builtin "classmethod.__get__") (.ref pA15) .none (.ref C_Plan))) (pr15 : PySem.W.recIn K pA15 "classmethod" = some (.ref f15 :: pR15)) (pf15 : PySem.W.fnIn K f15 = true)
    (spec : PySem.W.specialIn K (.builtin "object.__class__") "__get__" = some (some (.builtin "getset_descriptor.__get__"))) (takes : PySem.W.takesIn K (.builtin "object.__class__") = some true)
    (kit_Lane_Form : PySem.W.kitOne K (.ref C_Lane) (.ref C_Form) = some false)
    (kit_Block_Lane : PySem.W.kitOne K (.ref C_Block) (.ref C_Lane) = some false)
    {A_WAYS : Addr} {dd_WAYS : Option Addr} {n_WAYS : Nat} {sl_WAYS : Array (Option Value)} {t_WAYS0 : Tok} {t_WAYS1 : Tok}
    (a_WAYS : PySem.W.nsIn K mainGlobals "WAYS" = some (some (.ref A_WAYS))) (l_WAYS : K.lookup A_WAYS = some ⟨.type "tuple", dd_WAYS, .seq [Value.str "up" t_WAYS0, Value.str "down" t_WAYS1].toArray n_WAYS, sl_WAYS⟩)
    {A_SIGNS : Addr} {dd_SIGNS : Option Addr} {n_SIGNS : Nat} {sl_SIGNS : Array (Option Value)} {t_SIGNS0 : Tok} {t_SIGNS1 : Tok}
    (a_SIGNS : PySem.W.nsIn K mainGlobals "SIGNS" = some (some (.ref A_SIGNS))) (l_SIGNS : K.lookup A_SIGNS = some ⟨.type "tuple", dd_SIGNS, .seq [Value.str "+" t_SIGNS0, Value.str "-" t_SIGNS1].toArray n_SIGNS, sl_SIGNS⟩)
    {A_DEEDS : Addr} {dd_DEEDS : Option Addr} {n_DEEDS : Nat} {sl_DEEDS : Array (Option Value)} {t_DEEDS0 : Tok} {t_DEEDS1 : Tok}
    (a_DEEDS : PySem.W.nsIn K mainGlobals "DEEDS" = some (some (.ref A_DEEDS))) (l_DEEDS : K.lookup A_DEEDS = some ⟨.type "tuple", dd_DEEDS, .seq [Value.str "add" t_DEEDS0, Value.str "put" t_DEEDS1].toArray n_DEEDS, sl_DEEDS⟩)
    {f16 : Addr} {od16 an16 : Option Addr} {sl16 : Array (Option Value)} {oc16 kV16 dc16 pm16 cd16 ct16 : Value}
    (l16 : K.lookup f16 = some ⟨oc16, od16, .func (PySem.W.fnOf "is_whole" "is_whole" (defArgs s_is_whole) (defBody s_is_whole) (defScope s_is_whole) .none kV16 dc16 pm16 an16 cd16 ct16), sl16⟩) (c16 : PySem.W.codeIn K cd16 "is_whole" = true) (k16 : PySem.W.keepIn K (.ref f16) = true)
    (a16 : PySem.W.nsIn K mainGlobals "is_whole" = some (some (.ref f16)))
    {f17 : Addr} {od17 an17 : Option Addr} {sl17 : Array (Option Value)} {oc17 kV17 dc17 pm17 cd17 ct17 : Value}
    (l17 : K.lookup f17 = some ⟨oc17, od17, .func (PySem.W.fnOf "is_number" "is_number" (defArgs s_is_number) (defBody s_is_number) (defScope s_is_number) .none kV17 dc17 pm17 an17 cd17 ct17), sl17⟩) (c17 : PySem.W.codeIn K cd17 "is_number" = true) (k17 : PySem.W.keepIn K (.ref f17) = true)
    (a17 : PySem.W.nsIn K mainGlobals "is_number" = some (some (.ref f17)))
    {f18 : Addr} {od18 an18 : Option Addr} {sl18 : Array (Option Value)} {oc18 kV18 dc18 pm18 cd18 ct18 : Value}
    (l18 : K.lookup f18 = some ⟨oc18, od18, .func (PySem.W.fnOf "is_sequence" "is_sequence" (defArgs s_is_sequence) (defBody s_is_sequence) (defScope s_is_sequence) .none kV18 dc18 pm18 an18 cd18 ct18), sl18⟩) (c18 : PySem.W.codeIn K cd18 "is_sequence" = true) (k18 : PySem.W.keepIn K (.ref f18) = true)
    (a18 : PySem.W.nsIn K mainGlobals "is_sequence" = some (some (.ref f18)))
    {f19 : Addr} {od19 an19 : Option Addr} {sl19 : Array (Option Value)} {oc19 kV19 dc19 pm19 cd19 ct19 : Value}
    (l19 : K.lookup f19 = some ⟨oc19, od19, .func (PySem.W.fnOf "whole_in" "whole_in" (defArgs s_whole_in) (defBody s_whole_in) (defScope s_whole_in) .none kV19 dc19 pm19 an19 cd19 ct19), sl19⟩) (c19 : PySem.W.codeIn K cd19 "whole_in" = true) (k19 : PySem.W.keepIn K (.ref f19) = true)
    (a19 : PySem.W.nsIn K mainGlobals "whole_in" = some (some (.ref f19)))
    {f20 : Addr} {od20 an20 : Option Addr} {sl20 : Array (Option Value)} {oc20 kV20 dc20 pm20 cd20 ct20 : Value}
    (l20 : K.lookup f20 = some ⟨oc20, od20, .func (PySem.W.fnOf "_text" "_text" (defArgs s__text) (defBody s__text) (defScope s__text) .none kV20 dc20 pm20 an20 cd20 ct20), sl20⟩) (c20 : PySem.W.codeIn K cd20 "_text" = true) (k20 : PySem.W.keepIn K (.ref f20) = true)
    (a20 : PySem.W.nsIn K mainGlobals "_text" = some (some (.ref f20)))
    {f21 : Addr} {od21 an21 : Option Addr} {sl21 : Array (Option Value)} {oc21 kV21 dc21 pm21 cd21 ct21 : Value}
    (l21 : K.lookup f21 = some ⟨oc21, od21, .func (PySem.W.fnOf "_upper" "_upper" (defArgs s__upper) (defBody s__upper) (defScope s__upper) .none kV21 dc21 pm21 an21 cd21 ct21), sl21⟩) (c21 : PySem.W.codeIn K cd21 "_upper" = true) (k21 : PySem.W.keepIn K (.ref f21) = true)
    (a21 : PySem.W.nsIn K mainGlobals "_upper" = some (some (.ref f21)))
    {f22 : Addr} {od22 an22 : Option Addr} {sl22 : Array (Option Value)} {oc22 kV22 dc22 pm22 cd22 ct22 : Value}
    (l22 : K.lookup f22 = some ⟨oc22, od22, .func (PySem.W.fnOf "_parts" "_parts" (defArgs s__parts) (defBody s__parts) (defScope s__parts) .none kV22 dc22 pm22 an22 cd22 ct22), sl22⟩) (c22 : PySem.W.codeIn K cd22 "_parts" = true) (k22 : PySem.W.keepIn K (.ref f22) = true)
    (a22 : PySem.W.nsIn K mainGlobals "_parts" = some (some (.ref f22)))
    {f23 : Addr} {od23 an23 : Option Addr} {sl23 : Array (Option Value)} {oc23 kV23 dc23 pm23 cd23 ct23 : Value}
    (l23 : K.lookup f23 = some ⟨oc23, od23, .func (PySem.W.fnOf "_upper_parts" "_upper_parts" (defArgs s__upper_parts) (defBody s__upper_parts) (defScope s__upper_parts) .none kV23 dc23 pm23 an23 cd23 ct23), sl23⟩) (c23 : PySem.W.codeIn K cd23 "_upper_parts" = true) (k23 : PySem.W.keepIn K (.ref f23) = true)
    (a23 : PySem.W.nsIn K mainGlobals "_upper_parts" = some (some (.ref f23)))
    {f24 : Addr} {od24 an24 : Option Addr} {sl24 : Array (Option Value)} {oc24 kV24 dc24 pm24 cd24 ct24 : Value}
    (l24 : K.lookup f24 = some ⟨oc24, od24, .func (PySem.W.fnOf "_factor" "_factor" (defArgs s__factor) (defBody s__factor) (defScope s__factor) .none kV24 dc24 pm24 an24 cd24 ct24), sl24⟩) (c24 : PySem.W.codeIn K cd24 "_factor" = true) (k24 : PySem.W.keepIn K (.ref f24) = true)
    (a24 : PySem.W.nsIn K mainGlobals "_factor" = some (some (.ref f24)))
    {f25 : Addr} {od25 an25 : Option Addr} {sl25 : Array (Option Value)} {oc25 kV25 dc25 pm25 cd25 ct25 : Value}
    (l25 : K.lookup f25 = some ⟨oc25, od25, .func (PySem.W.fnOf "_blocks_in" "_blocks_in" (defArgs s__blocks_in) (defBody s__blocks_in) (defScope s__blocks_in) .none kV25 dc25 pm25 an25 cd25 ct25), sl25⟩) (c25 : PySem.W.codeIn K cd25 "_blocks_in" = true) (k25 : PySem.W.keepIn K (.ref f25) = true)
    (a25 : PySem.W.nsIn K mainGlobals "_blocks_in" = some (some (.ref f25)))
    {f26 : Addr} {od26 an26 : Option Addr} {sl26 : Array (Option Value)} {oc26 kV26 dc26 pm26 cd26 ct26 : Value}
    (l26 : K.lookup f26 = some ⟨oc26, od26, .func (PySem.W.fnOf "_rounds_in" "_rounds_in" (defArgs s__rounds_in) (defBody s__rounds_in) (defScope s__rounds_in) .none kV26 dc26 pm26 an26 cd26 ct26), sl26⟩) (c26 : PySem.W.codeIn K cd26 "_rounds_in" = true) (k26 : PySem.W.keepIn K (.ref f26) = true)
    (a26 : PySem.W.nsIn K mainGlobals "_rounds_in" = some (some (.ref f26)))
    {f27 : Addr} {od27 an27 : Option Addr} {sl27 : Array (Option Value)} {oc27 kV27 dc27 pm27 cd27 ct27 : Value}
    (l27 : K.lookup f27 = some ⟨oc27, od27, .func (PySem.W.fnOf "_lane_in" "_lane_in" (defArgs s__lane_in) (defBody s__lane_in) (defScope s__lane_in) .none kV27 dc27 pm27 an27 cd27 ct27), sl27⟩) (c27 : PySem.W.codeIn K cd27 "_lane_in" = true) (k27 : PySem.W.keepIn K (.ref f27) = true)
    (a27 : PySem.W.nsIn K mainGlobals "_lane_in" = some (some (.ref f27)))
    {f28 : Addr} {od28 an28 : Option Addr} {sl28 : Array (Option Value)} {oc28 kV28 dc28 pm28 cd28 ct28 : Value}
    (l28 : K.lookup f28 = some ⟨oc28, od28, .func (PySem.W.fnOf "pace" "pace" (defArgs s_pace) (defBody s_pace) (defScope s_pace) .none kV28 dc28 pm28 an28 cd28 ct28), sl28⟩) (c28 : PySem.W.codeIn K cd28 "pace" = true) (k28 : PySem.W.keepIn K (.ref f28) = true)
    (a28 : PySem.W.nsIn K mainGlobals "pace" = some (some (.ref f28)))
    {f29 : Addr} {od29 an29 : Option Addr} {sl29 : Array (Option Value)} {oc29 kV29 dc29 pm29 cd29 ct29 : Value}
    (l29 : K.lookup f29 = some ⟨oc29, od29, .func (PySem.W.fnOf "hops" "hops" (defArgs s_hops) (defBody s_hops) (defScope s_hops) .none kV29 dc29 pm29 an29 cd29 ct29), sl29⟩) (c29 : PySem.W.codeIn K cd29 "hops" = true) (k29 : PySem.W.keepIn K (.ref f29) = true)
    (a29 : PySem.W.nsIn K mainGlobals "hops" = some (some (.ref f29)))
    {f30 : Addr} {od30 an30 : Option Addr} {sl30 : Array (Option Value)} {oc30 kV30 dc30 pm30 cd30 ct30 : Value}
    (l30 : K.lookup f30 = some ⟨oc30, od30, .func (PySem.W.fnOf "_law_box" "_law_box" (defArgs s__law_box) (defBody s__law_box) (defScope s__law_box) .none kV30 dc30 pm30 an30 cd30 ct30), sl30⟩) (c30 : PySem.W.codeIn K cd30 "_law_box" = true) (k30 : PySem.W.keepIn K (.ref f30) = true)
    (a30 : PySem.W.nsIn K mainGlobals "_law_box" = some (some (.ref f30)))
    {f31 : Addr} {od31 an31 : Option Addr} {sl31 : Array (Option Value)} {oc31 kV31 dc31 pm31 cd31 ct31 : Value}
    (l31 : K.lookup f31 = some ⟨oc31, od31, .func (PySem.W.fnOf "_law_take" "_law_take" (defArgs s__law_take) (defBody s__law_take) (defScope s__law_take) .none kV31 dc31 pm31 an31 cd31 ct31), sl31⟩) (c31 : PySem.W.codeIn K cd31 "_law_take" = true) (k31 : PySem.W.keepIn K (.ref f31) = true)
    (a31 : PySem.W.nsIn K mainGlobals "_law_take" = some (some (.ref f31)))
    {f32 : Addr} {od32 an32 : Option Addr} {sl32 : Array (Option Value)} {oc32 kV32 dc32 pm32 cd32 ct32 : Value}
    (l32 : K.lookup f32 = some ⟨oc32, od32, .func (PySem.W.fnOf "_law_pick" "_law_pick" (defArgs s__law_pick) (defBody s__law_pick) (defScope s__law_pick) .none kV32 dc32 pm32 an32 cd32 ct32), sl32⟩) (c32 : PySem.W.codeIn K cd32 "_law_pick" = true) (k32 : PySem.W.keepIn K (.ref f32) = true)
    (a32 : PySem.W.nsIn K mainGlobals "_law_pick" = some (some (.ref f32)))
    {f33 : Addr} {od33 an33 : Option Addr} {sl33 : Array (Option Value)} {oc33 kV33 dc33 pm33 cd33 ct33 : Value}
    (l33 : K.lookup f33 = some ⟨oc33, od33, .func (PySem.W.fnOf "_law_form_text" "_law_form_text" (defArgs s__law_form_text) (defBody s__law_form_text) (defScope s__law_form_text) .none kV33 dc33 pm33 an33 cd33 ct33), sl33⟩) (c33 : PySem.W.codeIn K cd33 "_law_form_text" = true) (k33 : PySem.W.keepIn K (.ref f33) = true)
    (a33 : PySem.W.nsIn K mainGlobals "_law_form_text" = some (some (.ref f33)))
    {f34 : Addr} {od34 an34 : Option Addr} {sl34 : Array (Option Value)} {oc34 kV34 dc34 pm34 cd34 ct34 : Value}
    (l34 : K.lookup f34 = some ⟨oc34, od34, .func (PySem.W.fnOf "_law_plan_text" "_law_plan_text" (defArgs s__law_plan_text) (defBody s__law_plan_text) (defScope s__law_plan_text) .none kV34 dc34 pm34 an34 cd34 ct34), sl34⟩) (c34 : PySem.W.codeIn K cd34 "_law_plan_text" = true) (k34 : PySem.W.keepIn K (.ref f34) = true)
    (a34 : PySem.W.nsIn K mainGlobals "_law_plan_text" = some (some (.ref f34)))
    {f35 : Addr} {od35 an35 : Option Addr} {sl35 : Array (Option Value)} {oc35 kV35 dc35 pm35 cd35 ct35 : Value}
    (l35 : K.lookup f35 = some ⟨oc35, od35, .func (PySem.W.fnOf "_law_plan_of" "_law_plan_of" (defArgs s__law_plan_of) (defBody s__law_plan_of) (defScope s__law_plan_of) .none kV35 dc35 pm35 an35 cd35 ct35), sl35⟩) (c35 : PySem.W.codeIn K cd35 "_law_plan_of" = true) (k35 : PySem.W.keepIn K (.ref f35) = true)
    (a35 : PySem.W.nsIn K mainGlobals "_law_plan_of" = some (some (.ref f35)))
    {f36 : Addr} {od36 an36 : Option Addr} {sl36 : Array (Option Value)} {oc36 kV36 dc36 pm36 cd36 ct36 : Value}
    (l36 : K.lookup f36 = some ⟨oc36, od36, .func (PySem.W.fnOf "_law_form" "_law_form" (defArgs s__law_form) (defBody s__law_form) (defScope s__law_form) .none kV36 dc36 pm36 an36 cd36 ct36), sl36⟩) (c36 : PySem.W.codeIn K cd36 "_law_form" = true) (k36 : PySem.W.keepIn K (.ref f36) = true)
    (a36 : PySem.W.nsIn K mainGlobals "_law_form" = some (some (.ref f36)))
    {f37 : Addr} {od37 an37 : Option Addr} {sl37 : Array (Option Value)} {oc37 kV37 dc37 pm37 cd37 ct37 : Value}
    (l37 : K.lookup f37 = some ⟨oc37, od37, .func (PySem.W.fnOf "_law_lane" "_law_lane" (defArgs s__law_lane) (defBody s__law_lane) (defScope s__law_lane) .none kV37 dc37 pm37 an37 cd37 ct37), sl37⟩) (c37 : PySem.W.codeIn K cd37 "_law_lane" = true) (k37 : PySem.W.keepIn K (.ref f37) = true)
    (a37 : PySem.W.nsIn K mainGlobals "_law_lane" = some (some (.ref f37)))
    {f38 : Addr} {od38 an38 : Option Addr} {sl38 : Array (Option Value)} {oc38 kV38 dc38 pm38 cd38 ct38 : Value}
    (l38 : K.lookup f38 = some ⟨oc38, od38, .func (PySem.W.fnOf "_law_value" "_law_value" (defArgs s__law_value) (defBody s__law_value) (defScope s__law_value) .none kV38 dc38 pm38 an38 cd38 ct38), sl38⟩) (c38 : PySem.W.codeIn K cd38 "_law_value" = true) (k38 : PySem.W.keepIn K (.ref f38) = true)
    (a38 : PySem.W.nsIn K mainGlobals "_law_value" = some (some (.ref f38)))
    {f39 : Addr} {od39 an39 : Option Addr} {sl39 : Array (Option Value)} {oc39 kV39 dc39 pm39 cd39 ct39 : Value}
    (l39 : K.lookup f39 = some ⟨oc39, od39, .func (PySem.W.fnOf "_law_part" "_law_part" (defArgs s__law_part) (defBody s__law_part) (defScope s__law_part) .none kV39 dc39 pm39 an39 cd39 ct39), sl39⟩) (c39 : PySem.W.codeIn K cd39 "_law_part" = true) (k39 : PySem.W.keepIn K (.ref f39) = true)
    (a39 : PySem.W.nsIn K mainGlobals "_law_part" = some (some (.ref f39)))
    {f40 : Addr} {od40 an40 : Option Addr} {sl40 : Array (Option Value)} {oc40 kV40 dc40 pm40 cd40 ct40 : Value}
    (l40 : K.lookup f40 = some ⟨oc40, od40, .func (PySem.W.fnOf "_law_wide_form" "_law_wide_form" (defArgs s__law_wide_form) (defBody s__law_wide_form) (defScope s__law_wide_form) .none kV40 dc40 pm40 an40 cd40 ct40), sl40⟩) (c40 : PySem.W.codeIn K cd40 "_law_wide_form" = true) (k40 : PySem.W.keepIn K (.ref f40) = true)
    (a40 : PySem.W.nsIn K mainGlobals "_law_wide_form" = some (some (.ref f40)))
    {f41 : Addr} {od41 an41 : Option Addr} {sl41 : Array (Option Value)} {oc41 kV41 dc41 pm41 cd41 ct41 : Value}
    (l41 : K.lookup f41 = some ⟨oc41, od41, .func (PySem.W.fnOf "_law_pace" "_law_pace" (defArgs s__law_pace) (defBody s__law_pace) (defScope s__law_pace) .none kV41 dc41 pm41 an41 cd41 ct41), sl41⟩) (c41 : PySem.W.codeIn K cd41 "_law_pace" = true) (k41 : PySem.W.keepIn K (.ref f41) = true)
    (a41 : PySem.W.nsIn K mainGlobals "_law_pace" = some (some (.ref f41)))
    {f42 : Addr} {od42 an42 : Option Addr} {sl42 : Array (Option Value)} {oc42 kV42 dc42 pm42 cd42 ct42 : Value}
    (l42 : K.lookup f42 = some ⟨oc42, od42, .func (PySem.W.fnOf "law" "law" (defArgs s_law) (defBody s_law) (defScope s_law) .none kV42 dc42 pm42 an42 cd42 ct42), sl42⟩) (c42 : PySem.W.codeIn K cd42 "law" = true) (k42 : PySem.W.keepIn K (.ref f42) = true)
    (a42 : PySem.W.nsIn K mainGlobals "law" = some (some (.ref f42)))
    (z_abs : PySem.W.nsIn K mainGlobals "abs" = some none)
    (z_all : PySem.W.nsIn K mainGlobals "all" = some none)
    (z_bool : PySem.W.nsIn K mainGlobals "bool" = some none)
    (z_enumerate : PySem.W.nsIn K mainGlobals "enumerate" = some none)
    (z_int : PySem.W.nsIn K mainGlobals "int" = some none)
    (z_isinstance : PySem.W.nsIn K mainGlobals "isinstance" = some none)
    (z_len : PySem.W.nsIn K mainGlobals "len" = some none)
    (z_list : PySem.W.nsIn K mainGlobals "list" = some none)
    (z_max : PySem.W.nsIn K mainGlobals "max" = some none)
    (z_min : PySem.W.nsIn K mainGlobals "min" = some none)
    (z_range : PySem.W.nsIn K mainGlobals "range" = some none)
    (z_repr : PySem.W.nsIn K mainGlobals "repr" = some none)
    (z_str : PySem.W.nsIn K mainGlobals "str" = some none)
    (z_sum : PySem.W.nsIn K mainGlobals "sum" = some none)
    (z_tuple : PySem.W.nsIn K mainGlobals "tuple" = some none)
    (aM_gcd : PySem.W.nsIn K mainGlobals "gcd" = some (some (.builtin "math.gcd")))
    : ∃ fd : FuncData, (∀ (s : Shared) (v : Value), BindsTo s fd ⟨[v], []⟩ [("_law_script", v)]) ∧ ∀ base : Heap, K.In base → base.Ns mainGlobals mg → At callerA l.prog w K mg base CX0 12 fa ["_law_script"] fd (spLaw K) := by
  have e := hfa.symm.trans (PySem.W.mg_of X G a42)
  cases e
  let T : Txt K mg := {
    c_Form := C_Form, m_Form := PySem.W.mg_of X G aC_Form,
    C_Form := ⟨pg_Form, hd_Form, po_Form, sa_Form⟩,
    n_Form_times := n_times_Form,
    n_Form_plus := n_plus_Form,
    n_Form_by := n_by_Form,
    F_Form := ⟨fo_Form, mo_Form⟩,
    I_Form := ⟨cl_Form, tC_Form, ca_Form, spec, takes, mo_Form⟩, N_Form := ⟨mo_N_Form, mo_S_Form, mo_T_Form, mo_L_Form, mo_I_Form⟩,
    a_Form___init__ := f0, d_Form___init__ := _, F_Form___init__ := (show FunD K "__init__" "Form.__init__" (defArgs s_Form___init__) (defBody s_Form___init__) (defScope s_Form___init__) [(.int 0), (.int 0), (.int 1)] [] _ _ from ⟨⟨_, _, _, _, _, _, _, _, _, _, rfl, l0, c0, .inr ⟨by simp, _, _, [Value.int 0 t0_0, Value.int 0 t0_1, Value.int 1 t0_2], _, rfl, t0, rfl, by repeat (first | exact .nil | refine .cons ⟨_, rfl⟩ ?_ | refine .cons rfl ?_)⟩, .inl rfl⟩, k0⟩), b_Form___init__ := (by obtain ⟨ds, rv, bb⟩ := (show FunD K "__init__" "Form.__init__" (defArgs s_Form___init__) (defBody s_Form___init__) (defScope s_Form___init__) [(.int 0), (.int 0), (.int 1)] [] _ _ from ⟨⟨_, _, _, _, _, _, _, _, _, _, rfl, l0, c0, .inr ⟨by simp, _, _, [Value.int 0 t0_0, Value.int 0 t0_1, Value.int 1 t0_2], _, rfl, t0, rfl, by repeat (first | exact .nil | refine .cons ⟨_, rfl⟩ ?_ | refine .cons rfl ?_)⟩, .inl rfl⟩, k0⟩).binds1 (ps := ["self", "times", "plus", "by"]) 4 3 (by simp) rfl (fun _ _ _ _ _ _ _ us its hl hi => match us, its, hl, hi with | [_, _, _, _], [_, _, _], _, _ => ⟨_, rfl, rfl⟩); cases rv; exact bb), k_Form___init__ := k0,
    D_Form___init__ := (show FunD K "__init__" "Form.__init__" (defArgs s_Form___init__) (defBody s_Form___init__) (defScope s_Form___init__) [(.int 0), (.int 0), (.int 1)] [] _ _ from ⟨⟨_, _, _, _, _, _, _, _, _, _, rfl, l0, c0, .inr ⟨by simp, _, _, [Value.int 0 t0_0, Value.int 0 t0_1, Value.int 1 t0_2], _, rfl, t0, rfl, by repeat (first | exact .nil | refine .cons ⟨_, rfl⟩ ?_ | refine .cons rfl ?_)⟩, .inl rfl⟩, k0⟩).binds1 (ps := ["self", "times", "plus", "by"]) 1 0 (by simp) rfl (fun _ _ _ _ _ _ _ us its hl hi => match us, its, hl, hi with | [_], [_, _, _], _, _ => ⟨_, rfl, rfl⟩),
    D1_Form___init__ := (show FunD K "__init__" "Form.__init__" (defArgs s_Form___init__) (defBody s_Form___init__) (defScope s_Form___init__) [(.int 0), (.int 0), (.int 1)] [] _ _ from ⟨⟨_, _, _, _, _, _, _, _, _, _, rfl, l0, c0, .inr ⟨by simp, _, _, [Value.int 0 t0_0, Value.int 0 t0_1, Value.int 1 t0_2], _, rfl, t0, rfl, by repeat (first | exact .nil | refine .cons ⟨_, rfl⟩ ?_ | refine .cons rfl ?_)⟩, .inl rfl⟩, k0⟩).binds1 (ps := ["self", "times", "plus", "by"]) 2 1 (by simp) rfl (fun _ _ _ _ _ _ _ us its hl hi => match us, its, hl, hi with | [_, _], [_, _, _], _, _ => ⟨_, rfl, rfl⟩),
    D2_Form___init__ := (show FunD K "__init__" "Form.__init__" (defArgs s_Form___init__) (defBody s_Form___init__) (defScope s_Form___init__) [(.int 0), (.int 0), (.int 1)] [] _ _ from ⟨⟨_, _, _, _, _, _, _, _, _, _, rfl, l0, c0, .inr ⟨by simp, _, _, [Value.int 0 t0_0, Value.int 0 t0_1, Value.int 1 t0_2], _, rfl, t0, rfl, by repeat (first | exact .nil | refine .cons ⟨_, rfl⟩ ?_ | refine .cons rfl ?_)⟩, .inl rfl⟩, k0⟩).binds1 (ps := ["self", "times", "plus", "by"]) 3 2 (by simp) rfl (fun _ _ _ _ _ _ _ us its hl hi => match us, its, hl, hi with | [_, _, _], [_, _, _], _, _ => ⟨_, rfl, rfl⟩),
    M_Form := ⟨mk_Form, a0, i0, kc_Form⟩,
    a_Form___call__ := f1, d_Form___call__ := _, F_Form___call__ := fun_mk (st := s_Form___call__) l1 c1 k1, b_Form___call__ := (fun_mk (st := s_Form___call__) l1 c1 k1).binds (ps := ["self", "n"]) (fun _ _ _ _ _ _ us hl => match us, hl with | [_, _], _ => rfl), k_Form___call__ := k1,
    fn_Form___call__ := fi1,
    M_Form___call__ := ⟨a1, i1, k1⟩,
    a_Form___eq__ := f2, d_Form___eq__ := _, F_Form___eq__ := fun_mk (st := s_Form___eq__) l2 c2 k2, b_Form___eq__ := (fun_mk (st := s_Form___eq__) l2 c2 k2).binds (ps := ["self", "other"]) (fun _ _ _ _ _ _ us hl => match us, hl with | [_, _], _ => rfl), k_Form___eq__ := k2,
    O_Form := ⟨a2, i2, nE_Form, mo_Form⟩,
    a_Form___str__ := f3, d_Form___str__ := _, F_Form___str__ := fun_mk (st := s_Form___str__) l3 c3 k3, b_Form___str__ := (fun_mk (st := s_Form___str__) l3 c3 k3).binds (ps := ["self"]) (fun _ _ _ _ _ _ us hl => match us, hl with | [_], _ => rfl), k_Form___str__ := k3,
    M_Form___str__ := ⟨a3, i3, k3⟩,
    a_Form_read := f4, d_Form_read := _, F_Form_read := fun_mk (st := s_Form_read) l4 c4 k4, b_Form_read := (fun_mk (st := s_Form_read) l4 c4 k4).binds (ps := ["cls", "text"]) (fun _ _ _ _ _ _ us hl => match us, hl with | [_, _], _ => rfl), k_Form_read := k4,
    R_Form := ⟨cr_Form, cg_Form⟩,
    p_Form_read := pA4, G_Form_read := ⟨pm4, ⟨_, pr4⟩, pf4⟩,
    c_Lane := C_Lane, m_Lane := PySem.W.mg_of X G aC_Lane,
    C_Lane := ⟨pg_Lane, hd_Lane, po_Lane, sa_Lane⟩,
    n_Lane_way := n_way_Lane,
    n_Lane_sign := n_sign_Lane,
    n_Lane_shift := n_shift_Lane,
    n_Lane_deed := n_deed_Lane,
    I_Lane := ⟨cl_Lane, tC_Lane, ca_Lane, spec, takes, mo_Lane⟩, N_Lane := ⟨mo_N_Lane, mo_S_Lane, mo_T_Lane, mo_L_Lane, mo_I_Lane⟩,
    a_Lane___init__ := f5, d_Lane___init__ := _, F_Lane___init__ := fun_mk (st := s_Lane___init__) l5 c5 k5, b_Lane___init__ := (fun_mk (st := s_Lane___init__) l5 c5 k5).binds (ps := ["self", "way", "sign", "shift", "deed"]) (fun _ _ _ _ _ _ us hl => match us, hl with | [_, _, _, _, _], _ => rfl), k_Lane___init__ := k5,
    M_Lane := ⟨mk_Lane, a5, i5, kc_Lane⟩,
    a_Lane___eq__ := f6, d_Lane___eq__ := _, F_Lane___eq__ := fun_mk (st := s_Lane___eq__) l6 c6 k6, b_Lane___eq__ := (fun_mk (st := s_Lane___eq__) l6 c6 k6).binds (ps := ["self", "other"]) (fun _ _ _ _ _ _ us hl => match us, hl with | [_, _], _ => rfl), k_Lane___eq__ := k6,
    O_Lane := ⟨a6, i6, nE_Lane, mo_Lane⟩,
    a_Lane___str__ := f7, d_Lane___str__ := _, F_Lane___str__ := fun_mk (st := s_Lane___str__) l7 c7 k7, b_Lane___str__ := (fun_mk (st := s_Lane___str__) l7 c7 k7).binds (ps := ["self"]) (fun _ _ _ _ _ _ us hl => match us, hl with | [_], _ => rfl), k_Lane___str__ := k7,
    M_Lane___str__ := ⟨a7, i7, k7⟩,
    c_Block := C_Block, m_Block := PySem.W.mg_of X G aC_Block,
    C_Block := ⟨pg_Block, hd_Block, po_Block, sa_Block⟩,
    n_Block_rounds := n_rounds_Block,
    n_Block_lanes := n_lanes_Block,
    I_Block := ⟨cl_Block, tC_Block, ca_Block, spec, takes, mo_Block⟩, N_Block := ⟨mo_N_Block, mo_S_Block, mo_T_Block, mo_L_Block, mo_I_Block⟩,
    a_Block___init__ := f8, d_Block___init__ := _, F_Block___init__ := fun_mk (st := s_Block___init__) l8 c8 k8, b_Block___init__ := (fun_mk (st := s_Block___init__) l8 c8 k8).binds (ps := ["self", "rounds", "lanes"]) (fun _ _ _ _ _ _ us hl => match us, hl with | [_, _, _], _ => rfl), k_Block___init__ := k8,
    M_Block := ⟨mk_Block, a8, i8, kc_Block⟩,
    a_Block___eq__ := f9, d_Block___eq__ := _, F_Block___eq__ := fun_mk (st := s_Block___eq__) l9 c9 k9, b_Block___eq__ := (fun_mk (st := s_Block___eq__) l9 c9 k9).binds (ps := ["self", "other"]) (fun _ _ _ _ _ _ us hl => match us, hl with | [_, _], _ => rfl), k_Block___eq__ := k9,
    O_Block := ⟨a9, i9, nE_Block, mo_Block⟩,
    a_Block___str__ := f10, d_Block___str__ := _, F_Block___str__ := fun_mk (st := s_Block___str__) l10 c10 k10, b_Block___str__ := (fun_mk (st := s_Block___str__) l10 c10 k10).binds (ps := ["self"]) (fun _ _ _ _ _ _ us hl => match us, hl with | [_], _ => rfl), k_Block___str__ := k10,
    M_Block___str__ := ⟨a10, i10, k10⟩,
    c_Plan := C_Plan, m_Plan := PySem.W.mg_of X G aC_Plan,
    C_Plan := ⟨pg_Plan, hd_Plan, po_Plan, sa_Plan⟩,
    n_Plan_blocks := n_blocks_Plan,
    n_Plan_found := n_found_Plan,
    I_Plan := ⟨cl_Plan, tC_Plan, ca_Plan, spec, takes, mo_Plan⟩, N_Plan := ⟨mo_N_Plan, mo_S_Plan, mo_T_Plan, mo_L_Plan, mo_I_Plan⟩,
    e_Plan___init___0 := eD_Plan___init___0,
    a_Plan___init__ := f11, d_Plan___init__ := _, F_Plan___init__ := (show FunD K "__init__" "Plan.__init__" (defArgs s_Plan___init__) (defBody s_Plan___init__) (defScope s_Plan___init__) [(.ref eD_Plan___init___0)] [] _ _ from ⟨⟨_, _, _, _, _, _, _, _, _, _, rfl, l11, c11, .inr ⟨by simp, _, _, [Value.ref eD_Plan___init___0], _, rfl, t11, rfl, by repeat (first | exact .nil | refine .cons ⟨_, rfl⟩ ?_ | refine .cons rfl ?_)⟩, .inl rfl⟩, k11⟩), b_Plan___init__ := (by obtain ⟨ds, rv, bb⟩ := (show FunD K "__init__" "Plan.__init__" (defArgs s_Plan___init__) (defBody s_Plan___init__) (defScope s_Plan___init__) [(.ref eD_Plan___init___0)] [] _ _ from ⟨⟨_, _, _, _, _, _, _, _, _, _, rfl, l11, c11, .inr ⟨by simp, _, _, [Value.ref eD_Plan___init___0], _, rfl, t11, rfl, by repeat (first | exact .nil | refine .cons ⟨_, rfl⟩ ?_ | refine .cons rfl ?_)⟩, .inl rfl⟩, k11⟩).binds1 (ps := ["self", "blocks"]) 2 1 (by simp) rfl (fun _ _ _ _ _ _ _ us its hl hi => match us, its, hl, hi with | [_, _], [_], _, _ => ⟨_, rfl, rfl⟩); cases rv; exact bb), k_Plan___init__ := k11,
    D_Plan___init__ := (show FunD K "__init__" "Plan.__init__" (defArgs s_Plan___init__) (defBody s_Plan___init__) (defScope s_Plan___init__) [(.ref eD_Plan___init___0)] [] _ _ from ⟨⟨_, _, _, _, _, _, _, _, _, _, rfl, l11, c11, .inr ⟨by simp, _, _, [Value.ref eD_Plan___init___0], _, rfl, t11, rfl, by repeat (first | exact .nil | refine .cons ⟨_, rfl⟩ ?_ | refine .cons rfl ?_)⟩, .inl rfl⟩, k11⟩).binds1 (ps := ["self", "blocks"]) 1 0 (by simp) rfl (fun _ _ _ _ _ _ _ us its hl hi => match us, its, hl, hi with | [_], [_], _, _ => ⟨_, rfl, rfl⟩),
    E_Plan___init___0 := fun H => .inr ⟨_, _, _, lD_Plan___init___0, rfl, rfl, by show 0 ≤ sizeLine; decide, .nil⟩,
    M_Plan := ⟨mk_Plan, a11, i11, kc_Plan⟩,
    a_Plan_all_rounds := f12, d_Plan_all_rounds := _, F_Plan_all_rounds := fun_mk (st := s_Plan_all_rounds) l12 c12 k12, b_Plan_all_rounds := (fun_mk (st := s_Plan_all_rounds) l12 c12 k12).binds (ps := ["self", "n"]) (fun _ _ _ _ _ _ us hl => match us, hl with | [_, _], _ => rfl), k_Plan_all_rounds := k12,
    M_Plan_all_rounds := ⟨a12, i12, k12⟩,
    a_Plan___eq__ := f13, d_Plan___eq__ := _, F_Plan___eq__ := fun_mk (st := s_Plan___eq__) l13 c13 k13, b_Plan___eq__ := (fun_mk (st := s_Plan___eq__) l13 c13 k13).binds (ps := ["self", "other"]) (fun _ _ _ _ _ _ us hl => match us, hl with | [_, _], _ => rfl), k_Plan___eq__ := k13,
    O_Plan := ⟨a13, i13, nE_Plan, mo_Plan⟩,
    a_Plan___str__ := f14, d_Plan___str__ := _, F_Plan___str__ := fun_mk (st := s_Plan___str__) l14 c14 k14, b_Plan___str__ := (fun_mk (st := s_Plan___str__) l14 c14 k14).binds (ps := ["self"]) (fun _ _ _ _ _ _ us hl => match us, hl with | [_], _ => rfl), k_Plan___str__ := k14,
    M_Plan___str__ := ⟨a14, i14, k14⟩,
    a_Plan_read := f15, d_Plan_read := _, F_Plan_read := fun_mk (st := s_Plan_read) l15 c15 k15, b_Plan_read := (fun_mk (st := s_Plan_read) l15 c15 k15).binds (ps := ["cls", "text"]) (fun _ _ _ _ _ _ us hl => match us, hl with | [_, _], _ => rfl), k_Plan_read := k15,
    R_Plan := ⟨cr_Plan, cg_Plan⟩,
    p_Plan_read := pA15, G_Plan_read := ⟨pm15, ⟨_, pr15⟩, pf15⟩,
    kit_Lane_Form := kit_Lane_Form,
    kit_Block_Lane := kit_Block_Lane,
    A_WAYS := A_WAYS, m_WAYS := PySem.W.mg_of X G a_WAYS, s_WAYS := fun H => .inr ⟨_, _, _, l_WAYS, rfl, rfl, by show 2 ≤ sizeLine; decide, by repeat (first | exact .nil | refine .cons ⟨_, rfl⟩ ?_)⟩,
    A_SIGNS := A_SIGNS, m_SIGNS := PySem.W.mg_of X G a_SIGNS, s_SIGNS := fun H => .inr ⟨_, _, _, l_SIGNS, rfl, rfl, by show 2 ≤ sizeLine; decide, by repeat (first | exact .nil | refine .cons ⟨_, rfl⟩ ?_)⟩,
    A_DEEDS := A_DEEDS, m_DEEDS := PySem.W.mg_of X G a_DEEDS, s_DEEDS := fun H => .inr ⟨_, _, _, l_DEEDS, rfl, rfl, by show 2 ≤ sizeLine; decide, by repeat (first | exact .nil | refine .cons ⟨_, rfl⟩ ?_)⟩,
    a_is_whole := f16, d_is_whole := _, F_is_whole := fun_mk (st := s_is_whole) l16 c16 k16, b_is_whole := (fun_mk (st := s_is_whole) l16 c16 k16).binds (ps := ["value"]) (fun _ _ _ _ _ _ us hl => match us, hl with | [_], _ => rfl), k_is_whole := k16,
    m_is_whole := PySem.W.mg_of X G a16,
    a_is_number := f17, d_is_number := _, F_is_number := fun_mk (st := s_is_number) l17 c17 k17, b_is_number := (fun_mk (st := s_is_number) l17 c17 k17).binds (ps := ["value"]) (fun _ _ _ _ _ _ us hl => match us, hl with | [_], _ => rfl), k_is_number := k17,
    m_is_number := PySem.W.mg_of X G a17,
    a_is_sequence := f18, d_is_sequence := _, F_is_sequence := fun_mk (st := s_is_sequence) l18 c18 k18, b_is_sequence := (fun_mk (st := s_is_sequence) l18 c18 k18).binds (ps := ["value"]) (fun _ _ _ _ _ _ us hl => match us, hl with | [_], _ => rfl), k_is_sequence := k18,
    m_is_sequence := PySem.W.mg_of X G a18,
    a_whole_in := f19, d_whole_in := _, F_whole_in := fun_mk (st := s_whole_in) l19 c19 k19, b_whole_in := (fun_mk (st := s_whole_in) l19 c19 k19).binds (ps := ["word"]) (fun _ _ _ _ _ _ us hl => match us, hl with | [_], _ => rfl), k_whole_in := k19,
    m_whole_in := PySem.W.mg_of X G a19,
    a__text := f20, d__text := _, F__text := fun_mk (st := s__text) l20 c20 k20, b__text := (fun_mk (st := s__text) l20 c20 k20).binds (ps := ["times", "plus", "by"]) (fun _ _ _ _ _ _ us hl => match us, hl with | [_, _, _], _ => rfl), k__text := k20,
    m__text := PySem.W.mg_of X G a20,
    a__upper := f21, d__upper := _, F__upper := fun_mk (st := s__upper) l21 c21 k21, b__upper := (fun_mk (st := s__upper) l21 c21 k21).binds (ps := ["times", "plus"]) (fun _ _ _ _ _ _ us hl => match us, hl with | [_, _], _ => rfl), k__upper := k21,
    m__upper := PySem.W.mg_of X G a21,
    a__parts := f22, d__parts := _, F__parts := fun_mk (st := s__parts) l22 c22 k22, b__parts := (fun_mk (st := s__parts) l22 c22 k22).binds (ps := ["text"]) (fun _ _ _ _ _ _ us hl => match us, hl with | [_], _ => rfl), k__parts := k22,
    m__parts := PySem.W.mg_of X G a22,
    a__upper_parts := f23, d__upper_parts := _, F__upper_parts := fun_mk (st := s__upper_parts) l23 c23 k23, b__upper_parts := (fun_mk (st := s__upper_parts) l23 c23 k23).binds (ps := ["upper"]) (fun _ _ _ _ _ _ us hl => match us, hl with | [_], _ => rfl), k__upper_parts := k23,
    m__upper_parts := PySem.W.mg_of X G a23,
    a__factor := f24, d__factor := _, F__factor := fun_mk (st := s__factor) l24 c24 k24, b__factor := (fun_mk (st := s__factor) l24 c24 k24).binds (ps := ["word"]) (fun _ _ _ _ _ _ us hl => match us, hl with | [_], _ => rfl), k__factor := k24,
    m__factor := PySem.W.mg_of X G a24,
    a__blocks_in := f25, d__blocks_in := _, F__blocks_in := fun_mk (st := s__blocks_in) l25 c25 k25, b__blocks_in := (fun_mk (st := s__blocks_in) l25 c25 k25).binds (ps := ["lines"]) (fun _ _ _ _ _ _ us hl => match us, hl with | [_], _ => rfl), k__blocks_in := k25,
    m__blocks_in := PySem.W.mg_of X G a25,
    a__rounds_in := f26, d__rounds_in := _, F__rounds_in := fun_mk (st := s__rounds_in) l26 c26 k26, b__rounds_in := (fun_mk (st := s__rounds_in) l26 c26 k26).binds (ps := ["line"]) (fun _ _ _ _ _ _ us hl => match us, hl with | [_], _ => rfl), k__rounds_in := k26,
    m__rounds_in := PySem.W.mg_of X G a26,
    a__lane_in := f27, d__lane_in := _, F__lane_in := fun_mk (st := s__lane_in) l27 c27 k27, b__lane_in := (fun_mk (st := s__lane_in) l27 c27 k27).binds (ps := ["line"]) (fun _ _ _ _ _ _ us hl => match us, hl with | [_], _ => rfl), k__lane_in := k27,
    m__lane_in := PySem.W.mg_of X G a27,
    a_pace := f28, d_pace := _, F_pace := fun_mk (st := s_pace) l28 c28 k28, b_pace := (fun_mk (st := s_pace) l28 c28 k28).binds (ps := ["plan"]) (fun _ _ _ _ _ _ us hl => match us, hl with | [_], _ => rfl), k_pace := k28,
    m_pace := PySem.W.mg_of X G a28,
    a_hops := f29, d_hops := _, F_hops := fun_mk (st := s_hops) l29 c29 k29, b_hops := (fun_mk (st := s_hops) l29 c29 k29).binds (ps := ["plan", "n"]) (fun _ _ _ _ _ _ us hl => match us, hl with | [_, _], _ => rfl), k_hops := k29,
    m_hops := PySem.W.mg_of X G a29,
    a__law_box := f30, d__law_box := _, F__law_box := fun_mk (st := s__law_box) l30 c30 k30, b__law_box := (fun_mk (st := s__law_box) l30 c30 k30).binds (ps := ["_law_script", "_law_k", "_law_own"]) (fun _ _ _ _ _ _ us hl => match us, hl with | [_, _, _], _ => rfl), k__law_box := k30,
    m__law_box := PySem.W.mg_of X G a30,
    a__law_take := f31, d__law_take := _, F__law_take := fun_mk (st := s__law_take) l31 c31 k31, b__law_take := (fun_mk (st := s__law_take) l31 c31 k31).binds (ps := ["_law_box_here", "_law_many"]) (fun _ _ _ _ _ _ us hl => match us, hl with | [_, _], _ => rfl), k__law_take := k31,
    m__law_take := PySem.W.mg_of X G a31,
    a__law_pick := f32, d__law_pick := _, F__law_pick := fun_mk (st := s__law_pick) l32 c32 k32, b__law_pick := (fun_mk (st := s__law_pick) l32 c32 k32).binds (ps := ["_law_box_here", "_law_items"]) (fun _ _ _ _ _ _ us hl => match us, hl with | [_, _], _ => rfl), k__law_pick := k32,
    m__law_pick := PySem.W.mg_of X G a32,
    a__law_form_text := f33, d__law_form_text := _, F__law_form_text := fun_mk (st := s__law_form_text) l33 c33 k33, b__law_form_text := (fun_mk (st := s__law_form_text) l33 c33 k33).binds (ps := ["_law_form_here"]) (fun _ _ _ _ _ _ us hl => match us, hl with | [_], _ => rfl), k__law_form_text := k33,
    m__law_form_text := PySem.W.mg_of X G a33,
    a__law_plan_text := f34, d__law_plan_text := _, F__law_plan_text := fun_mk (st := s__law_plan_text) l34 c34 k34, b__law_plan_text := (fun_mk (st := s__law_plan_text) l34 c34 k34).binds (ps := ["_law_drawn"]) (fun _ _ _ _ _ _ us hl => match us, hl with | [_], _ => rfl), k__law_plan_text := k34,
    m__law_plan_text := PySem.W.mg_of X G a34,
    a__law_plan_of := f35, d__law_plan_of := _, F__law_plan_of := fun_mk (st := s__law_plan_of) l35 c35 k35, b__law_plan_of := (fun_mk (st := s__law_plan_of) l35 c35 k35).binds (ps := ["_law_drawn"]) (fun _ _ _ _ _ _ us hl => match us, hl with | [_], _ => rfl), k__law_plan_of := k35,
    m__law_plan_of := PySem.W.mg_of X G a35,
    a__law_form := f36, d__law_form := _, F__law_form := fun_mk (st := s__law_form) l36 c36 k36, b__law_form := (fun_mk (st := s__law_form) l36 c36 k36).binds (ps := ["_law_box_here", "_law_most"]) (fun _ _ _ _ _ _ us hl => match us, hl with | [_, _], _ => rfl), k__law_form := k36,
    m__law_form := PySem.W.mg_of X G a36,
    a__law_lane := f37, d__law_lane := _, F__law_lane := fun_mk (st := s__law_lane) l37 c37 k37, b__law_lane := (fun_mk (st := s__law_lane) l37 c37 k37).binds (ps := ["_law_box_here"]) (fun _ _ _ _ _ _ us hl => match us, hl with | [_], _ => rfl), k__law_lane := k37,
    m__law_lane := PySem.W.mg_of X G a37,
    a__law_value := f38, d__law_value := _, F__law_value := fun_mk (st := s__law_value) l38 c38 k38, b__law_value := (fun_mk (st := s__law_value) l38 c38 k38).binds (ps := ["_law_form_here", "_law_n"]) (fun _ _ _ _ _ _ us hl => match us, hl with | [_, _], _ => rfl), k__law_value := k38,
    m__law_value := PySem.W.mg_of X G a38,
    a__law_part := f39, d__law_part := _, F__law_part := fun_mk (st := s__law_part) l39 c39 k39, b__law_part := (fun_mk (st := s__law_part) l39 c39 k39).binds (ps := ["_law_one", "_law_other"]) (fun _ _ _ _ _ _ us hl => match us, hl with | [_, _], _ => rfl), k__law_part := k39,
    m__law_part := PySem.W.mg_of X G a39,
    a__law_wide_form := f40, d__law_wide_form := _, F__law_wide_form := fun_mk (st := s__law_wide_form) l40 c40 k40, b__law_wide_form := (fun_mk (st := s__law_wide_form) l40 c40 k40).binds (ps := ["_law_box_here"]) (fun _ _ _ _ _ _ us hl => match us, hl with | [_], _ => rfl), k__law_wide_form := k40,
    m__law_wide_form := PySem.W.mg_of X G a40,
    a__law_pace := f41, d__law_pace := _, F__law_pace := fun_mk (st := s__law_pace) l41 c41 k41, b__law_pace := (fun_mk (st := s__law_pace) l41 c41 k41).binds (ps := ["_law_drawn"]) (fun _ _ _ _ _ _ us hl => match us, hl with | [_], _ => rfl), k__law_pace := k41,
    m__law_pace := PySem.W.mg_of X G a41,
    a_law := fa, d_law := _, F_law := fun_mk (st := s_law) l42 c42 k42, b_law := (fun_mk (st := s_law) l42 c42 k42).binds (ps := ["_law_script"]) (fun _ _ _ _ _ _ us hl => match us, hl with | [_], _ => rfl), k_law := k42,
    m_law := PySem.W.mg_of X G a42,
    m_gcd := PySem.W.mg_of X G aM_gcd,
    z_abs := PySem.W.mg_none_of X G z_abs, z_all := PySem.W.mg_none_of X G z_all, z_bool := PySem.W.mg_none_of X G z_bool, z_enumerate := PySem.W.mg_none_of X G z_enumerate, z_int := PySem.W.mg_none_of X G z_int, z_isinstance := PySem.W.mg_none_of X G z_isinstance, z_len := PySem.W.mg_none_of X G z_len, z_list := PySem.W.mg_none_of X G z_list, z_max := PySem.W.mg_none_of X G z_max, z_min := PySem.W.mg_none_of X G z_min, z_range := PySem.W.mg_none_of X G z_range, z_repr := PySem.W.mg_none_of X G z_repr, z_str := PySem.W.mg_none_of X G z_str, z_sum := PySem.W.mg_none_of X G z_sum, z_tuple := PySem.W.mg_none_of X G z_tuple }
  exact ⟨PySem.W.fnOf "law" "law" (defArgs s_law) (defBody s_law) (defScope s_law) .none kV42 dc42 pm42 an42 cd42 ct42, fun s v => .of_eq rfl, fun base _ _ => ok_law T⟩
end K55
open PySem PySem.W PyProof.Rows
set_option maxHeartbeats 0 in
theorem PySem.Challenge.cw_ringsums_k55_paces_and_hops_holds : PySem.Challenge.rw_ringsums_k55_paces_and_hops.Holds := by
  w_on; o_law; k_head; (case hw => w_witness2)
  k_fill
  refine Rs.walk_at_of (l := PySem.Challenge.rw_ringsums_k55_paces_and_hops) (n := 63) (k := 12) (x := "_law_script") (sp := fun w => K55.spLaw _) rfl (by decide) rfl ⟨rfl, by decide, by decide⟩ (fun w h Y => PySem.W.kIn_of Y) ?F (fun _ _ a ns hl hS => ⟨a, ns, rfl, hS, hl, fun _ => rfl⟩)
  case F =>
    intro w mg fa h KX G hmg
    refine' K55.all_mk KX G hmg ?aC_Form ?pg_Form ?hd_Form ?po_Form ?sa_Form ?mk_Form ?kc_Form ?n_times_Form ?n_plus_Form ?n_by_Form ?fo_Form ?cl_Form ?tC_Form ?ca_Form ?mo_Form ?nE_Form ?mo_N_Form ?mo_S_Form ?mo_T_Form ?mo_L_Form ?mo_I_Form ?t0 ?l0 ?c0 ?k0 ?a0 ?i0 ?l1 ?c1 ?k1 ?a1 ?i1 ?fi1 ?l2 ?c2 ?k2 ?a2 ?i2 ?l3 ?c3 ?k3 ?a3 ?i3 ?l4 ?c4 ?k4 ?cr_Form ?cg_Form ?pm4 ?pr4 ?pf4 ?aC_Lane ?pg_Lane ?hd_Lane ?po_Lane ?sa_Lane ?mk_Lane ?kc_Lane ?n_way_Lane ?n_sign_Lane ?n_shift_Lane ?n_deed_Lane ?cl_Lane ?tC_Lane ?ca_Lane ?mo_Lane ?nE_Lane ?mo_N_Lane ?mo_S_Lane ?mo_T_Lane ?mo_L_Lane ?mo_I_Lane ?l5 ?c5 ?k5 ?a5 ?i5 ?l6 ?c6 ?k6 ?a6 ?i6 ?l7 ?c7 ?k7 ?a7 ?i7 ?aC_Block ?pg_Block ?hd_Block ?po_Block ?sa_Block ?mk_Block ?kc_Block ?n_rounds_Block ?n_lanes_Block ?cl_Block ?tC_Block ?ca_Block ?mo_Block ?nE_Block ?mo_N_Block ?mo_S_Block ?mo_T_Block ?mo_L_Block ?mo_I_Block ?l8 ?c8 ?k8 ?a8 ?i8 ?l9 ?c9 ?k9 ?a9 ?i9 ?l10 ?c10 ?k10 ?a10 ?i10 ?aC_Plan ?pg_Plan ?hd_Plan ?po_Plan ?sa_Plan ?mk_Plan ?kc_Plan ?n_blocks_Plan ?n_found_Plan ?cl_Plan ?tC_Plan ?ca_Plan ?mo_Plan ?nE_Plan ?mo_N_Plan ?mo_S_Plan ?mo_T_Plan ?mo_L_Plan ?mo_I_Plan ?t11 ?l11 ?c11 ?k11 ?lD_Plan___init___0 ?a11 ?i11 ?l12 ?c12 ?k12 ?a12 ?i12 ?l13 ?c13 ?k13 ?a13 ?i13 ?l14 ?c14 ?k14 ?a14 ?i14 ?l15 ?c15 ?k15 ?cr_Plan ?cg_Plan ?pm15 ?pr15 ?pf15 ?spec ?takes ?kit_Lane_Form ?kit_Block_Lane ?a_WAYS ?l_WAYS ?a_SIGNS ?l_SIGNS ?a_DEEDS ?l_DEEDS ?l16 ?c16 ?k16 ?a16 ?l17 ?c17 ?k17 ?a17 ?l18 ?c18 ?k18 ?a18 ?l19 ?c19 ?k19 ?a19 ?l20 ?c20 ?k20 ?a20 ?l21 ?c21 ?k21 ?a21 ?l22 ?c22 ?k22 ?a22 ?l23 ?c23 ?k23 ?a23 ?l24 ?c24 ?k24 ?a24 ?l25 ?c25 ?k25 ?a25 ?l26 ?c26 ?k26 ?a26 ?l27 ?c27 ?k27 ?a27 ?l28 ?c28 ?k28 ?a28 ?l29 ?c29 ?k29 ?a29 ?l30 ?c30 ?k30 ?a30 ?l31 ?c31 ?k31 ?a31 ?l32 ?c32 ?k32 ?a32 ?l33 ?c33 ?k33 ?a33 ?l34 ?c34 ?k34 ?a34 ?l35 ?c35 ?k35 ?a35 ?l36 ?c36 ?k36 ?a36 ?l37 ?c37 ?k37 ?a37 ?l38 ?c38 ?k38 ?a38 ?l39 ?c39 ?k39 ?a39 ?l40 ?c40 ?k40 ?a40 ?l41 ?c41 ?k41 ?a41 ?l42 ?c42 ?k42 ?a42 ?z_abs ?z_all ?z_bool ?z_enumerate ?z_int ?z_isinstance ?z_len ?z_list ?z_max ?z_min ?z_range ?z_repr ?z_str ?z_sum ?z_tuple ?aM_gcd
    (case aC_Form => k_is)
    (case aC_Lane => k_is)
    (case aC_Block => k_is)
    (case aC_Plan => k_is)
    (case a_WAYS => k_is)
    (case a_SIGNS => k_is)
    (case a_DEEDS => k_is)
    (case a0 => k_is)
    (case a1 => k_is)
    (case a2 => k_is)
    (case a3 => k_is)
    (case pm4 => k_is)
    (case a5 => k_is)
    (case a6 => k_is)
    (case a7 => k_is)
    (case a8 => k_is)
    (case a9 => k_is)
    (case a10 => k_is)
    (case a11 => k_is)
    (case a12 => k_is)
    (case a13 => k_is)
    (case a14 => k_is)
    (case pm15 => k_is)
    (case a16 => k_is)
    (case a17 => k_is)
    (case a18 => k_is)
    (case a19 => k_is)
    (case a20 => k_is)
    (case a21 => k_is)
    (case a22 => k_is)
    (case a23 => k_is)
    (case a24 => k_is)
    (case a25 => k_is)
    (case a26 => k_is)
    (case a27 => k_is)
    (case a28 => k_is)
    (case a29 => k_is)
    (case a30 => k_is)
    (case a31 => k_is)
    (case a32 => k_is)
    (case a33 => k_is)
    (case a34 => k_is)
    (case a35 => k_is)
    (case a36 => k_is)
    (case a37 => k_is)
    (case a38 => k_is)
    (case a39 => k_is)
    (case a40 => k_is)
    (case a41 => k_is)
    (case a42 => k_is)
    (case pr4 => k_is)
    (case pr15 => k_is)
    (case l0 => k_is)
    (case l1 => k_is)
    (case l2 => k_is)
    (case l3 => k_is)
    (case l4 => k_is)
    (case l5 => k_is)
    (case l6 => k_is)
    (case l7 => k_is)
    (case l8 => k_is)
    (case l9 => k_is)
    (case l10 => k_is)
    (case l11 => k_is)
    (case l12 => k_is)
    (case l13 => k_is)
    (case l14 => k_is)
    (case l15 => k_is)
    (case l_WAYS => k_is)
    (case l_SIGNS => k_is)
    (case l_DEEDS => k_is)
    (case l16 => k_is)
    (case l17 => k_is)
    (case l18 => k_is)
    (case l19 => k_is)
    (case l20 => k_is)
    (case l21 => k_is)
    (case l22 => k_is)
    (case l23 => k_is)
    (case l24 => k_is)
    (case l25 => k_is)
    (case l26 => k_is)
    (case l27 => k_is)
    (case l28 => k_is)
    (case l29 => k_is)
    (case l30 => k_is)
    (case l31 => k_is)
    (case l32 => k_is)
    (case l33 => k_is)
    (case l34 => k_is)
    (case l35 => k_is)
    (case l36 => k_is)
    (case l37 => k_is)
    (case l38 => k_is)
    (case l39 => k_is)
    (case l40 => k_is)
    (case l41 => k_is)
    (case l42 => k_is)
    (case pg_Form => k_is)
    (case hd_Form => k_is)
    (case po_Form => k_is)
    (case sa_Form => k_is)
    (case mk_Form => k_is)
    (case kc_Form => k_is)
    (case n_times_Form => k_is)
    (case n_plus_Form => k_is)
    (case n_by_Form => k_is)
    (case fo_Form => k_is)
    (case cl_Form => first | rfl | k_is)
    (case tC_Form => first | rfl | k_is)
    (case ca_Form => k_is)
    (case mo_Form => first | rfl | k_is)
    (case nE_Form => k_is)
    (case mo_N_Form => first | rfl | k_is)
    (case mo_S_Form => first | rfl | k_is)
    (case mo_T_Form => first | rfl | k_is)
    (case mo_L_Form => first | rfl | k_is)
    (case mo_I_Form => first | rfl | k_is)
    (case t0 => first | rfl | k_is)
    (case c0 => k_is)
    (case k0 => k_is)
    (case i0 => k_is)
    (case c1 => k_is)
    (case k1 => k_is)
    (case i1 => k_is)
    (case fi1 => k_is)
    (case c2 => k_is)
    (case k2 => k_is)
    (case i2 => k_is)
    (case c3 => k_is)
    (case k3 => k_is)
    (case i3 => k_is)
    (case c4 => k_is)
    (case k4 => k_is)
    (case cr_Form => k_is)
    (case cg_Form => k_is)
    (case pf4 => k_is)
    (case pg_Lane => k_is)
    (case hd_Lane => k_is)
    (case po_Lane => k_is)
    (case sa_Lane => k_is)
    (case mk_Lane => k_is)
    (case kc_Lane => k_is)
    (case n_way_Lane => k_is)
    (case n_sign_Lane => k_is)
    (case n_shift_Lane => k_is)
    (case n_deed_Lane => k_is)
    (case cl_Lane => first | rfl | k_is)
    (case tC_Lane => first | rfl | k_is)
    (case ca_Lane => k_is)
    (case mo_Lane => first | rfl | k_is)
    (case nE_Lane => k_is)
    (case mo_N_Lane => first | rfl | k_is)
    (case mo_S_Lane => first | rfl | k_is)
    (case mo_T_Lane => first | rfl | k_is)
    (case mo_L_Lane => first | rfl | k_is)
    (case mo_I_Lane => first | rfl | k_is)
    (case c5 => k_is)
    (case k5 => k_is)
    (case i5 => k_is)
    (case c6 => k_is)
    (case k6 => k_is)
    (case i6 => k_is)
    (case c7 => k_is)
    (case k7 => k_is)
    (case i7 => k_is)
    (case pg_Block => k_is)
    (case hd_Block => k_is)
    (case po_Block => k_is)
    (case sa_Block => k_is)
    (case mk_Block => k_is)
    (case kc_Block => k_is)
    (case n_rounds_Block => k_is)
    (case n_lanes_Block => k_is)
    (case cl_Block => first | rfl | k_is)
    (case tC_Block => first | rfl | k_is)
    (case ca_Block => k_is)
    (case mo_Block => first | rfl | k_is)
    (case nE_Block => k_is)
    (case mo_N_Block => first | rfl | k_is)
    (case mo_S_Block => first | rfl | k_is)
    (case mo_T_Block => first | rfl | k_is)
    (case mo_L_Block => first | rfl | k_is)
    (case mo_I_Block => first | rfl | k_is)
    (case c8 => k_is)
    (case k8 => k_is)
    (case i8 => k_is)
    (case c9 => k_is)
    (case k9 => k_is)
    (case i9 => k_is)
    (case c10 => k_is)
    (case k10 => k_is)
    (case i10 => k_is)
    (case pg_Plan => k_is)
    (case hd_Plan => k_is)
    (case po_Plan => k_is)
    (case sa_Plan => k_is)
    (case mk_Plan => k_is)
    (case kc_Plan => k_is)
    (case n_blocks_Plan => k_is)
    (case n_found_Plan => k_is)
    (case cl_Plan => first | rfl | k_is)
    (case tC_Plan => first | rfl | k_is)
    (case ca_Plan => k_is)
    (case mo_Plan => first | rfl | k_is)
    (case nE_Plan => k_is)
    (case mo_N_Plan => first | rfl | k_is)
    (case mo_S_Plan => first | rfl | k_is)
    (case mo_T_Plan => first | rfl | k_is)
    (case mo_L_Plan => first | rfl | k_is)
    (case mo_I_Plan => first | rfl | k_is)
    (case t11 => first | rfl | k_is)
    (case c11 => k_is)
    (case k11 => k_is)
    (case i11 => k_is)
    (case c12 => k_is)
    (case k12 => k_is)
    (case i12 => k_is)
    (case c13 => k_is)
    (case k13 => k_is)
    (case i13 => k_is)
    (case c14 => k_is)
    (case k14 => k_is)
    (case i14 => k_is)
    (case c15 => k_is)
    (case k15 => k_is)
    (case cr_Plan => k_is)
    (case cg_Plan => k_is)
    (case pf15 => k_is)
    (case spec => first | rfl | k_is)
    (case takes => first | rfl | k_is)
    (case kit_Lane_Form => first | rfl | k_is)
    (case kit_Block_Lane => first | rfl | k_is)
    (case c16 => k_is)
    (case k16 => k_is)
    (case c17 => k_is)
    (case k17 => k_is)
    (case c18 => k_is)
    (case k18 => k_is)
    (case c19 => k_is)
    (case k19 => k_is)
    (case c20 => k_is)
    (case k20 => k_is)
    (case c21 => k_is)
    (case k21 => k_is)
    (case c22 => k_is)
    (case k22 => k_is)
    (case c23 => k_is)
    (case k23 => k_is)
    (case c24 => k_is)
    (case k24 => k_is)
    (case c25 => k_is)
    (case k25 => k_is)
    (case c26 => k_is)
    (case k26 => k_is)
    (case c27 => k_is)
    (case k27 => k_is)
    (case c28 => k_is)
    (case k28 => k_is)
    (case c29 => k_is)
    (case k29 => k_is)
    (case c30 => k_is)
    (case k30 => k_is)
    (case c31 => k_is)
    (case k31 => k_is)
    (case c32 => k_is)
    (case k32 => k_is)
    (case c33 => k_is)
    (case k33 => k_is)
    (case c34 => k_is)
    (case k34 => k_is)
    (case c35 => k_is)
    (case k35 => k_is)
    (case c36 => k_is)
    (case k36 => k_is)
    (case c37 => k_is)
    (case k37 => k_is)
    (case c38 => k_is)
    (case k38 => k_is)
    (case c39 => k_is)
    (case k39 => k_is)
    (case c40 => k_is)
    (case k40 => k_is)
    (case c41 => k_is)
    (case k41 => k_is)
    (case c42 => k_is)
    (case k42 => k_is)
    (case z_abs => k_is)
    (case z_all => k_is)
    (case z_bool => k_is)
    (case z_enumerate => k_is)
    (case z_int => k_is)
    (case z_isinstance => k_is)
    (case z_len => k_is)
    (case z_list => k_is)
    (case z_max => k_is)
    (case z_min => k_is)
    (case z_range => k_is)
    (case z_repr => k_is)
    (case z_str => k_is)
    (case z_sum => k_is)
    (case z_tuple => k_is)
    (case aM_gcd => k_is)
    (case lD_Plan___init___0 => k_is)
